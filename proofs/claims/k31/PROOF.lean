import PyProof.Rows.All
import Wide.All
import OpenK.AllK
import Wide.FinOn
import Lean
import PyProof.EqAt
import PyProof.EqKinds
import PyProof.TupleCall
import PyProof.AttrMissHeap
import PySem.Challenge.RW_sealchain_k31_whole_a_way_leads_to_what
set_option Elab.async false
set_option linter.all false
set_option maxRecDepth 100000
set_option bootstrap.genMatcherCode false
set_option compiler.extract_closed false
set_option maxHeartbeats 40000000
theorem mY {α:Type _}{a:α}(l:List α){k:List α}(h:a∈k):a∈l++k:=List.mem_append_right l h
theorem mZ {α:Type _}(b:α){a:α}{l:List α}(h:a∈l):a∈b::l:=List.mem_cons_of_mem b h
theorem mX {α:Type _}{a:α}{l:List α}:a∈a::l:=List.mem_cons_self
theorem oX {α M:Type _}{o:Option α}{f:α->Option M}{b:M}(h:o.bind f=some b):∃a,o=some a/\f a=some b:=Option.bind_eq_some_iff.mp h
theorem oY {α M:Type _}{f:α->M}{o:Option α}{b:M}(h:o.map f=some b):∃a,o=some a/\f a=b:=Option.map_eq_some_iff.mp h
def wX:=@PySem.wpAny_bind
def wY:=@PySem.wpAny_pure
def vZ:=@PySem.Heap.get?_push_of_some
def vY:=@PySem.Heap.get?_push_size
def vX:=@PySem.Heap.lt_size
def vW:=@PySem.Heap.SameBut.update
theorem vV {α:Type _}{l:List α}{i:Nat}{a:α}(h:l[i]? = some a):∃h:i<l.length,l[i]=a:=List.getElem?_eq_some_iff.mp h
theorem vU {α:Type _}{l:List α}{i:Nat}(h:i<l.length):l[i]? = some l[i]:=List.getElem?_eq_getElem h
theorem vT (n:Nat):n<=n:=Nat.le_refl n
theorem vS {a b:Nat}(h:a<b):a≠b:=Nat.ne_of_lt h
theorem vR {n m k:Nat}:n<=m->m<=k->n<=k:=Nat.le_trans
theorem vQ {n m k:Nat}:n<m->m<=k->n<k:=Nat.lt_of_lt_of_le
theorem vP {α:Type _}{a b:α}{l:List α}(h:b∈a::l):b=a\/b∈l:=List.mem_cons.mp h
theorem vO {α M:Type _}{b:M}{f:α->M}{l:List α}(h:b∈l.map f):∃a,a∈l/\f a=b:=List.mem_map.mp h
theorem vN {α:Type _}{a:α}{p:α->Bool}{l:List α}(h:a∈l.filter p):a∈l/\p a=true:=List.mem_filter.mp h
theorem vM {α:Type _}(p:α->Bool)(l:List α):(l.filter p).length<=l.length:=List.length_filter_le p l
theorem vL {α:Type _}{l:List α}{i:Nat}{a:α}(h:l[i]? = some a):a∈l:=List.mem_of_getElem? h
theorem vK {α:Type _}{a b:α}(h:some a=some b):a=b:=Option.some.inj h
theorem vJ {α M:Type _}(a:α)(f:α->Option M):(some a).bind f=f a:=rfl
theorem vI {α O:Type _}{M:List α}(f:α->O):(M.map f).length=M.length:=List.length_map f
theorem vH {α:Type _}{l:List α}:l.toArray.size=l.length:=rfl
theorem vG {α:Type _}{xs:Array α}:xs.toList.length=xs.size:=rfl
theorem vF {α:Type _}{l:List α}{i:Nat}{a:α}:l.getD i a=l[i]?.getD a:=List.getD_eq_getElem?_getD
theorem vE {α:Type _}{a:α}{M:List α}:(a::M).length=M.length+1:=rfl
theorem vC (a b:Bool):((a && b)=true)=(a=true/\b=true):=Bool.and_eq_true a b
theorem vB {α:Type _}{i j:Nat}{a:α}{l:List α}(h:i≠j):(l.set i a)[j]? = l[j]?:=List.getElem?_set_ne h
theorem vA {α M:Type _}{f:α->M}{l:List α}{i:Nat}:(l.map f)[i]? = Option.map f l[i]?:=List.getElem?_map
theorem uZ {α:Type _}{M bs:List α}:(M++bs).length=M.length+bs.length:=List.length_append
theorem uY {α M:Type _}{f:α->M}{a:α}{l:List α}:(a::l).map f=f a::l.map f:=rfl
theorem uX:false≠true:=Bool.false_ne_true
theorem uW {α O:Type _}{f:α->O}{l M:List α}:(l++M).map f=l.map f++M.map f:=List.map_append
theorem uV:(false=true)=False:=Bool.false_eq_true
theorem uU {α:Type _}{x:Option α}(h:x.isSome=true):∃a,x=some a:=Option.isSome_iff_exists.mp h
theorem uT {α:Type _}{a b:α}(h:a∈[b]):a=b:=List.mem_singleton.mp h
theorem uS {α M:Type _}{b:M}{f:α->M}{l:List α}(h:∃a,a∈l/\f a=b):b∈l.map f:=List.mem_map.mpr h
theorem uR {α:Type _}{l:List α}{p:α->Bool}(h:l.all p=true):∀x∈l,p x=true:=List.all_eq_true.mp h
theorem uQ {α:Type _}(M:List α):M++[]=M:=List.append_nil M
theorem uP {α M O:Type _}{g:M->O}{f:α->M}{l:List α}:(l.map f).map g=l.map (g ∘ f):=List.map_map
theorem uO {α M:Type _}{x:α}{xs:List α}{f:α->List M}:(x::xs).flatMap f=f x++xs.flatMap f:=List.flatMap_cons
theorem uN (n:Nat):0<=n:=Nat.zero_le n
def xq {p:Prop}[Decidable p](h:p):decide p=true:=decide_eq_true h
def DP {p:Prop}[Decidable p](h:¬p):decide p=false:=decide_eq_false h
def DQ {p:Prop}[Decidable p](h:decide p=true):p:=of_decide_eq_true h
noncomputable section
open PySem.W (Frag fnOf nsIn mg_of)
open List (mem_filter mem_range mem_append mem_append_left mem_filterMap nodup_cons of_mem_zip length_take getElem?_replicate getElem?_append_left take_sublist length_replicate length_drop length_set all_cons any_cons replicate_succ flatten_cons append_assoc foldl_cons length_singleton nil_append map_nil find?_cons cons_append length_nil nodup_nil lookup_cons not_mem_nil all_map length_range mem_singleton lookup_cons_self mem_map getElem_mem nodup_append foldl_append take_add_one mem_cons getElem?_eq_none ext_getElem? not_lt le_trans le_antisymm pairwise_cons lt_irrefl lt_trans nil_perm filter_cons cons_lt_cons_iff zip_cons_cons getD_cons_succ getElem?_zip_eq_some length_zip zipWith_cons_cons take_length getElem?_drop pairwise_map any_eq_true all_eq_true all_nil length_zipIdx zip_map' filter_sublist flatMap_append flatMap_nil filter_cons_of_pos filter_cons_of_neg filter_append sum_cons map_id filter_filter exists_cons_of_length_eq_add_one)
open Nat (le_of_lt ne_of_gt le_of_eq lt_succ_self le_succ_of_le le_succ lt_of_le_of_lt lt_succ_of_lt le_add_right not_lt_zero lt_or_ge)
open Bool (beq_eq_decide_eq eq_false_iff not_eq_true or_eq_true)
open Int (toNat_natCast le_refl)
open Array (toList_push getElem?_toList getD_eq_getD_getElem? getElem?_eq_getElem toList_inj)
open Option (getD_none map_some isSome_map toList_some)
open PySem.F (slot_tuple_add entry_tuple_add args_tuple_add_2 slot_dict_get entry_dict_get plainAttrs_dict slot_list_add entry_list_add slot_tuple_iterator_next plain_set_new called_set slot_set_iter slot_tuple_lt slot_tuple_gt slot_list_getattribute)
abbrev QV:=PySem.Value->PySem.Shared->Prop
abbrev AO:=List (PySem.Addr×PySem.Obj)
abbrev SV:=PySem.Str->Option PySem.Value
abbrev LU:=List PySem.Value
abbrev AV:=Array PySem.Value
abbrev LS:=List PySem.Str
abbrev QD:=List PySem.Expr
abbrev LN:=List Nat
abbrev LI:=List Int
abbrev OI:=Option Int
namespace L2
open PySem PySem.Spec PyProof.Rows
abbrev dO:=Sum Int Str
noncomputable def t6:dO->Value->Bool
 |.inl k,v=>Value.isInt k v
 |.inr x,v=>Value.isStrOf x v
noncomputable def R1 (w:World):dO->Int
 |.inl k=>hashInt k
 |.inr x=>hashStr w x
theorem cN:∀ {k:dO}{v:Value},t6 k v=true->(∃i t,k=Sum.inl i/\v=Value.int i t)\/(∃x t,k=Sum.inr x/\v=Value.str x t)
 |.inl i,v,h=>by
  obtain⟨t,e⟩:=Value.isInt_shape (k:=i) (v:=v) h;exact .inl ⟨i,t,rfl,e⟩
 |.inr x,v,h=>by
  obtain⟨t,e⟩:=Value.isStrOf_shape (x:=x) (v:=v) h;exact .inr ⟨x,t,rfl,e⟩
theorem C0 (i:Int)(t:Tok):t6 (.inl i) (.int i t)=true:=by simp[t6,Value.isInt]
theorem C1 (x:Str)(t:Tok):t6 (.inr x) (.str x t)=true:=by simp[t6,Value.isStrOf]
theorem KI (a b:Int):decide ((Sum.inl a:dO)=Sum.inl b)=(a == b):=by
 by_cases e:a=b
 ·subst e;simp
 ·have h:¬(Sum.inl a:dO)=Sum.inl b:=λq=>e (Sum.inl.inj q);rw[DP h];exact(beq_eq_false_iff_ne.mpr e).symm
theorem KJ (a b:Str):decide ((Sum.inr a:dO)=Sum.inr b)=decide (a=b):=by
 by_cases e:a=b
 ·subst e;simp
 ·have h:¬(Sum.inr a:dO)=Sum.inr b:=λq=>e (Sum.inr.inj q);rw[DP h,DP e]
theorem KN (a:Int)(b:Str):decide ((Sum.inl a:dO)=Sum.inr b)=false:=DP (λq=>nomatch q)
theorem KO (a:Str)(b:Int):decide ((Sum.inr a:dO)=Sum.inl b)=false:=DP (λq=>nomatch q)
def c6 (prog:Program)(w:World):PySem.KeyKind prog w dO where
 is:=t6
 hash:=R1 w
 inj:=λv a b ha hb=>by
  rcases cN ha with⟨i,t,rfl,rfl⟩|⟨x,t,rfl,rfl⟩
  ·rcases cN hb with⟨j,u,rfl,e⟩|⟨y,u,rfl,e⟩
   ·injection e with M _;rw[M]
   ·exact nomatch e
  ·rcases cN hb with⟨j,u,rfl,e⟩|⟨y,u,rfl,e⟩
   ·exact nomatch e
   ·injection e with M _;rw[M]
 byValue:=λk v h=>by
  rcases cN h with⟨i,t,rfl,rfl⟩|⟨x,t,rfl,rfl⟩<;>rfl
 pyHash:=λhv h=>by
  rcases cN hv with⟨i,t,rfl,rfl⟩|⟨x,t,rfl,rfl⟩
  ·exact wpAny_pyHash_int h
  ·exact wpAny_pyHash_str h
 eqBool:=λhu hv h=>by
  rcases cN hu with⟨i,t,rfl,rfl⟩|⟨x,t,rfl,rfl⟩
  ·rcases cN hv with⟨j,u,rfl,rfl⟩|⟨y,u,rfl,rfl⟩
   ·rw[KI]at h;exact wpAny_eqBool_int h
   ·rw[KN]at h;exact SeqAt.EqAt.int_str i t y u _ _ _ _ h
  ·rcases cN hv with⟨j,u,rfl,rfl⟩|⟨y,u,rfl,rfl⟩
   ·rw[KO]at h;exact SeqAt.EqAt.str_int x t j u _ _ _ _ h
   ·rw[KJ]at h;exact wpAny_eqBool_str h
 «strs»:=λk x t v h=>by
  rcases cN h with⟨i,u,rfl,e⟩|⟨y,u,rfl,e⟩
  ·exact nomatch e
  ·injection e with M _;subst M;cases v<;>rfl
theorem xw (prog:Program)(w:World)(i:Int)(t:Tok):(c6 prog w).is (.inl i) (.int i t)=true:=C0 i t
theorem xx (prog:Program)(w:World)(x:Str)(t:Tok):(c6 prog w).is (.inr x) (.str x t)=true:=C1 x t
inductive V where
 |non|bl (b:Bool)|int (i:Int)|str (x:Str)|byt (b:Array UInt8)|flt (b:UInt64)|ref (a:Addr)|ty (n:String)
 deriving DecidableEq
def aZ:V->Value->Prop
 |.non,u=>u=Value.none
 |.bl b,u=>u=Value.bool b
 |.int i,u=>∃t,u=Value.int i t
 |.str x,u=>∃t,u=Value.str x t
 |.byt b,u=>∃t,u=Value.bytes b t
 |.flt b,u=>∃t,u=Value.float b t
 |.ref a,u=>u=Value.ref a
 |.ty n,u=>u=Value.type n
abbrev bj:List V->LU->Prop:=Paired aZ
theorem bj.length (r:bj xs us):xs.length=us.length:=Paired.length r
theorem bj.get:∀ {xs:List V}{us:LU}{i:Nat}{x:V},bj xs us->xs[i]? = some x->∃u,us[i]? = some u/\aZ x u
 |_,_,_,_,.nil,e=>by simp at e
 |_,_,0,_,.cons r _,e=>by simp at e;subst e;exact⟨_,rfl,r⟩
 |_,_,i+1,x,.cons _ t,e=>by
  obtain⟨u,h1,h2⟩:=bj.get (i:=i) (x:=x) t (by simpa using e);exact⟨u,by simpa using h1,h2⟩
theorem bj.set (r:aZ x u):∀ {xs:List V}{us:LU}(i:Nat),bj xs us->bj (xs.set i x) (us.set i u)
 |_,_,_,.nil=>.nil
 |_,_,0,.cons _ t=>.cons r t
 |_,_,i+1,.cons q t=>.cons q (bj.set r i t)
theorem bj.append:∀ {xs ys:List V}{us M:LU},bj xs us->bj ys M->bj (xs++ys) (us++M)
 |_,_,_,_,.nil,s=>s
 |_,_,_,_,.cons r t,s=>.cons r (bj.append t s)
theorem bj.take:∀ {xs:List V}{us:LU}(n:Nat),bj xs us->bj (xs.take n) (us.take n)
 |_,_,0,_=>.nil
 |_,_,_+1,.nil=>.nil
 |_,_,n+1,.cons r t=>.cons r (bj.take n t)
theorem bj.drop:∀ {xs:List V}{us:LU}(n:Nat),bj xs us->bj (xs.drop n) (us.drop n)
 |_,_,0,r=>r
 |_,_,_+1,.nil=>.nil
 |_,_,n+1,.cons _ t=>bj.drop n t
theorem bj.none_of:∀ {xs:List V}{us:LU}{i:Nat},bj xs us->xs[i]? = none->us[i]? = none:=λ{xs us i} r e=>by
 have h1:=r.length;have h2:xs.length<=i:=List.getElem?_eq_none_iff.mp e;exact List.getElem?_eq_none_iff.mpr (by lia)
def lw:Option V->Option Value->Prop
 |some v,some u=>aZ v u
 |none,none=>True
 |_,_=>False
def KV {κ:Type}:List (κ×V)->List (κ×Value)->Prop:=Paired λ(p:κ×V) (q:κ×Value)=>p.1=q.1/\aZ p.2 q.2
noncomputable def kV:dO->V
 |.inl i=>.int i
 |.inr x=>.str x
inductive HO where
  |lst (xs:List V)
  |tup (xs:List V)
  |dK (aL:List (dO×V)) (ob:Obj)|dT (aL:List (List dO×V))
  |set (S:Int->Bool) (n:Nat)
  |ins (C dx:Addr) (fs:List (Str×V))
  |own (x:Addr)
  |xd (fs:List (Str×V))
  |met (f x:Addr)
  |rng (lo hi:Int)
  |frz (o:Obj) (u:HO)
  |tbl (q:Str)
  |ext (φ:Heap->Prop)
abbrev Hp:=Addr->Option HO
noncomputable def upd (H:Hp)(a:Addr)(o:HO):Hp:=λb=>if b=a then some o else H b
theorem aA:upd H a o a=some o:=by unfold upd;rw[if_pos rfl]
theorem aD (h:b≠a):upd H a o b=H b:=by unfold upd;rw[if_neg h]
theorem Hl:upd (upd H a o) a u=upd H a u:=by
 funext b;unfold upd;split<;>rfl
theorem NQ {H:Hp}{a b:Addr}{o u:HO}(h:H a=some o)(h':H b=some u)(d:o≠u):a≠b:=by
 intro e;subst e;rw[h]at h';exact d (vK h')
theorem bd {H:Hp}{a b:Addr}{o:HO}(h:H a=some o)(h':H b=none):a≠b:=by
 intro e;subst e;rw[h]at h';cases h'
section
variable (P:Program) (w:World)
def c7 (H:Hp)(h:Heap)(a:Addr):HO->Prop
 |.lst xs=>xs.length<=sizeLine/\∃(its:LU)(n:Nat),bj xs its/\h.get? a=some { cls:=.type "list",data:=.seq its.toArray n }
 |.tup xs=>xs.length<=sizeLine/\∃its:LU,bj xs its/\IsTup h a its.toArray
 |.dK aL ob=>h.get? a=some ob/\aL.length<=sizeLine/\(a == sysModules)=false/\∃vs,KV aL vs/\h.DictOf (c6 P w) a vs
 |.dT aL=>aL.length<=sizeLine/\(a == sysModules)=false/\∃xs:List (List dO×Addr×Value),
   Paired (λ(p:List dO×V) (q:List dO×Addr×Value)=>p.1=q.1/\H q.2.1=some (.tup (p.1.map kV))/\aZ p.2 q.2.2) aL xs /\
   ∃o es T,h.get? a=some o/\o.ExactDict/\o.data=.dict es T/\es.toList=xs.map (entryOfKey (tupleKind (c6 P w)))/\(xs.map (·.1)).Nodup
 |.set S n=>h.SetOf (intKind P w) a S n
 |.ins C dx fs=>H dx=some (.own a)/\fs.length<=1000/\dx≠a/\h.get? a=some (PySem.W.instObj C dx) /\
   ∃mA,h.Ns1 dx mA/\(∀f,lw (fs.lookup f) (mA f))/\PySem.Within mA (fs.map (·.1))
 |.own _=>∃o,h.get? a=some o
 |.xd fs=>∃mA,h.Ns1 a mA/\∀f,lw (fs.lookup f) (mA f)
 |.rng lo hi=>∃t u v,h.get? a=some { cls:=.type "range",data:=.fields #[.int lo t,.int hi u,.int 1 v] }
 |.frz o u=>h.get? a=some o/\c7 H h a u
 |.tbl q=>∃ps:AV,h.get? a=some { cls:=.none,data:=.fields ps }/\TriplesOk ps.toList/\∀M O,codeAmong M ps.toList=some O->∃(c:Addr)(oc:Obj)(u:HO)(vs:AV)(t:Tok),O=.ref c/\H c=some (.frz oc u)/\oc.data=.fields vs/\vs[1]? = some (.str q t)
 |.met f x=>h.get? a=some (PySem.W.methodObj (.ref f) (.ref x))
 |.ext φ=>φ h/\(∃o,h.get? a=some o)/\∀h1 h2:Heap,φ h1->(∀o,h1.get? a=some o->h2.get? a=some o)->φ h2
def lx (H:Hp)(h:Heap):Prop:=∀a o,H a=some o->c7 P w H h a o
end
section
variable {P:Program}{w:World}{H H':Hp}{h h':Heap}{a:Addr}{o:HO}
theorem c7.lt (x:c7 P w H h a o):a<h.objs.size:=by
 cases o with
 |lst xs=>obtain⟨_,_,_,_,e⟩:=x;exact vX e
 |tup xs=>obtain⟨_,_,_,p⟩:=x;exact p.lt
 |dK aL ob=>exact vX (And.left x)
 |dT aL=>obtain⟨_,_,_,_,o,_,_,e,_⟩:=x;exact vX e
 |set S n=>obtain⟨o,_,_,_,e,_⟩:=x;exact vX e
 |ins C dx fs=>obtain⟨_,_,_,e,_⟩:=x;exact vX e
 |own y=>obtain⟨_,e⟩:=x;exact vX e
 |xd fs=>obtain⟨_,⟨_,_,_,e,_⟩,_⟩:=x;exact vX e
 |rng lo hi=>obtain⟨_,_,_,e⟩:=x;exact vX e
 |frz ob u=>obtain⟨e,_⟩:=x;exact vX e
 |tbl q=>obtain⟨_,e,_⟩:=x;exact vX e
 |met f y=>exact vX (show h.get? a=some _ from x)
 |ext φ=>obtain⟨_,⟨_,e⟩,_⟩:=x;exact vX e
theorem Paired.mapP {α T:Type}{F G:α->T->Prop}:∀ {M:List α}{O:List T},Paired F M O->(∀a b,F a b->G a b)->Paired G M O
 |_,_,.nil,_=>.nil
 |_,_,.cons r t,f=>.cons (f _ _ r) (Paired.mapP t f)
theorem c7.stay (x:c7 P w H h a o)(k:∀b u,(b=a\/H b=some (.own a))->h.get? b=some u->h'.get? b=some u)
  (T:∀b,H b=some (.own a)->H' b=some (.own a)) (U:∀b xs,H b=some (.tup xs)->H' b=some (.tup xs)) (hf:∀b o u,H b=some (.frz o u)->H' b=some (.frz o u)):c7 P w H' h' a o:=by
 induction o with
 |lst xs=>obtain⟨z,its,n,r,e⟩:=x;exact⟨z,its,n,r,k _ _ (.inl rfl) e⟩
 |tup xs=>obtain⟨z,its,r,ob,e,c⟩:=x;exact⟨z,its,r,ob,k _ _ (.inl rfl) e,c⟩
 |dK aL i=>obtain⟨g,z,y,vs,r,ob,es,M,e,c⟩:=x;exact⟨k _ _ (.inl rfl) g,z,y,vs,r,ob,es,M,k _ _ (.inl rfl) e,c⟩
 |dT aL=>
  obtain⟨z,y,xs,r,ob,es,M,e,c⟩:=x;exact⟨z,y,xs,Paired.mapP r λp q z=>⟨z.1,U _ _ z.2.1,z.2.2⟩,ob,es,M,k _ _ (.inl rfl) e,c⟩
 |set S n=>obtain⟨ob,es,M,t,e,c⟩:=x;exact⟨ob,es,M,t,k _ _ (.inl rfl) e,c⟩
 |ins C dx fs=>
  obtain⟨d,z,ne,e,mA,⟨od,es,M,e2,c⟩,r⟩:=x;exact⟨T _ d,z,ne,k _ _ (.inl rfl) e,mA,⟨od,es,M,k _ _ (.inr d) e2,c⟩,r⟩
 |own y=>obtain⟨ob,e⟩:=x;exact⟨ob,k _ _ (.inl rfl) e⟩
 |xd fs=>obtain⟨mA,⟨od,es,M,e,c⟩,r⟩:=x;exact⟨mA,⟨od,es,M,k _ _ (.inl rfl) e,c⟩,r⟩
 |rng lo hi=>obtain⟨t,u,v,e⟩:=x;exact⟨t,u,v,k _ _ (.inl rfl) e⟩
 |frz ob u j=>obtain⟨e,q⟩:=x;exact⟨k _ _ (.inl rfl) e,j q⟩
 |tbl q=>obtain⟨ps,e,t,c⟩:=x;exact⟨ps,k a _ (.inl rfl) e,t,λO l z=>let ⟨d,oc,u,vs,tk,m,s,A⟩:=c O l z;⟨d,oc,u,vs,tk,m,hf _ _ _ s,A⟩⟩
 |met f y=>
  have e:h.get? a=some (PySem.W.methodObj (.ref f) (.ref y)):=x;show h'.get? a=some (PySem.W.methodObj (.ref f) (.ref y));exact k a _ (.inl rfl) e
 |ext φ=>obtain⟨p,⟨o,e⟩,st⟩:=x;exact⟨st _ _ p λo q=>k _ _ (.inl rfl) q,⟨o,k _ _ (.inl rfl) e⟩,st⟩
theorem lx.lt (x:lx P w H h)(e:H a=some o):a<h.objs.size:=(x a o e).lt
theorem lx.fresh (x:lx P w H h)(e:h.objs.size<=a):H a=none:=by
 cases q:H a with
 |none=>rfl
 |some u=>exact absurd (vQ (x.lt q) e) (Nat.lt_irrefl _)
theorem lx.kept (x:lx P w H h)(k:∀b u,h.get? b=some u->h'.get? b=some u):lx P w H h':=λa o e=>
 (x a o e).stay (λb u _ q=>k b u q) (λ_ q=>q) (λ_ _ q=>q) λ_ _ _ q=>q
theorem lx.laid (x:lx P w H h)(k:∀b u,h.get? b=some u->h'.get? b=some u)(hp:h.objs.size<=a)(new:c7 P w (upd H a o) h' a o):lx P w (upd H a o) h':=λb u e=>by
 have hn:=x.fresh hp;by_cases hb:b=a
 ·subst hb;rw[aA]at e;cases e;exact new
 ·rw[aD hb]at e;exact(x b u e).stay (λc v _ q=>k c v q) (λc q=>by rw[aD (bd q hn)];exact q) (λc xs q=>by rw[aD (bd q hn)];exact q) λc o xs q=>by rw[aD (bd q hn)];exact q
end
def Rd (H:Hp)(a:Addr)(u:HO):Prop:=H a=some u\/∃o,H a=some (.frz o u)
theorem Rd.of (h:H a=some u):Rd H a u:=.inl h
theorem Rd.ok (r:Rd H a u)(x:lx P w H h):c7 P w H h a u:=by
 rcases r with r|⟨o,r⟩
 ·exact x a u r
 ·obtain⟨_,q⟩:=x a _ r;exact q
def NR:Option HO->Prop
 |some (.lst _)=>True
 |some (.dK _ _)=>True
 |some (.dT _)=>True
 |some (.set _ _)=>True
 |some (.ins _ _ _)=>True
 |some (.ext _)=>True
 |_=>False
section
variable {P:Program}{w:World}{H:Hp}{h h':Heap}{x e:Addr}{o':HO}
theorem lx.write (ok:lx P w H h)(T:NR (H x))(he:e=x\/H e=some (.own x))(k:∀b u,b≠e->h.get? b=some u->h'.get? b=some u)(d:∃u,h'.get? e=some u)
  (new:c7 P w (upd H x o') h' x o'):lx P w (upd H x o') h':=λb u q=>by
 have O:∀c y,H c=some (.own y)->c≠x:=λc y r z=>by subst z;rw[r]at T;exact T
 have U:∀c xs,H c=some (.tup xs)->c≠x:=λc xs r z=>by subst z;rw[r]at T;exact T
 by_cases hb:b=x
 ·subst hb;rw[aA]at q;cases q;exact new
 ·rw[aD hb]at q;by_cases M:b=e
  ·have a:H b=some (.own x):=by
    rcases he with z|z
    ·exact absurd (M.trans z) hb
    ·rw[M];exact z
   rw[q]at a;cases a;obtain⟨v,hv⟩:=d;exact⟨v,by rw[M];exact hv⟩
  ·refine(ok b u q).stay (λc v hc r=>k c v ?_ r) (λc r=>by rw[aD (O c b r)];exact r) (λc xs r=>by rw[aD (U c xs r)];exact r) λc o xs r=>by rw[aD (λz=>by subst z;rw[r]at T;exact T)];exact r
   rcases hc with rfl|hc
   ·exact M
   ·rintro rfl;rcases he with z|z
    ·exact O c b hc z
    ·rw[hc]at z;cases z;exact hb rfl
end
structure Un (fs ex:List Addr)(H H':Hp)(h h':Heap):Prop where
 keep:∀b o,h.get? b=some o->H b=none->b∉fs->b∉ex->h'.get? b=some o
 slot:∀b o,h.get? b=some o->H b=none->b∈fs->b∉ex->∃sl,h'.get? b=some { o with slots:=sl }
 free:∀b o,h.get? b=some o->H b=none->b∉ex->H' b=none
 there:∀b o,h.get? b=some o->b∉ex->∃o',h'.get? b=some o'
 tups:∀b xs,H b=some (.tup xs)->H' b=some (.tup xs)
 frzs:∀b o u,H b=some (.frz o u)->H' b=some (.frz o u)
 tbls:∀b q,H b=some (.tbl q)->H' b=some (.tbl q)
section
variable {fs WX ex Zs:List Addr}{H H1 H2:Hp}{h h1 h2 h':Heap}{a x e:Addr}{o:HO}
theorem Un.any (u:Un fs ex H H1 h h1)(q:h.get? b=some ob)(n:H b=none)(hx:b∉ex):∃sl,h1.get? b=some { ob with slots:=sl }:=by
 by_cases hb:b∈fs
 ·exact u.slot b ob q n hb hx
 ·exact⟨ob.slots,u.keep b ob q n hb hx⟩
theorem Un.trans (a:Un fs ex H H1 h h1)(b:Un fs ex H1 H2 h1 h2):Un fs ex H H2 h h2 where
 keep:=λc ob q n hc hx=>b.keep c ob (a.keep c ob q n hc hx) (a.free c ob q n hx) hc hx
 slot:=λc ob q n hc hx=>by
  obtain⟨sl,M⟩:=a.slot c ob q n hc hx;obtain⟨O,e2⟩:=b.slot c _ M (a.free c ob q n hx) hc hx;exact⟨O,e2⟩
 free:=λc ob q n hx=>by
  obtain⟨o',M⟩:=a.there c ob q hx;exact b.free c o' M (a.free c ob q n hx) hx
 there:=λc ob q hx=>by
  obtain⟨o',M⟩:=a.there c ob q hx;exact b.there c o' M hx
 tups:=λc xs q=>b.tups c xs (a.tups c xs q)
 frzs:=λc ob xs q=>b.frzs c ob xs (a.frzs c ob xs q)
 tbls:=λc ps q=>b.tbls c ps (a.tbls c ps q)
theorem Un.kept (k:∀b u,h.get? b=some u->h'.get? b=some u):Un fs ex H H h h' :=
 ⟨λb ob q _ _ _=>k b ob q,λb ob q _ _ _=>⟨ob.slots,k b ob q⟩,λ_ _ _ n _=>n,λb ob q _=>⟨ob,k b ob q⟩,λ_ _ q=>q,λ_ _ _ q=>q,λ_ _ q=>q⟩
theorem Un.refl:Un fs ex H H h h:=Un.kept λ_ _ q=>q
theorem Un.laid (k:∀b u,h.get? b=some u->h'.get? b=some u)(hp:h.objs.size<=a)(hn:H a=none):Un fs ex H (upd H a o) h h' where
 keep:=λb u q _ _ _=>k b u q
 slot:=λb u q _ _ _=>⟨u.slots,k b u q⟩
 free:=λb u q n _=>by rw[aD (vS (vQ (vX q) hp))];exact n
 there:=λb u q _=>⟨u,k b u q⟩
 tups:=λb xs q=>by rw[aD (bd q hn)];exact q
 frzs:=λb u xs q=>by rw[aD (bd q hn)];exact q
 tbls:=λb ps q=>by rw[aD (bd q hn)];exact q
theorem Un.write (O:NR (H x))(he:e=x\/H e=some (.own x))(k:∀b u,b≠e->h.get? b=some u->h'.get? b=some u)(T:∃u,h'.get? e=some u):Un fs ex H (upd H x o) h h':=by
 have hx:∀b,H b=none->b≠x:=λb n z=>by subst z;rw[n]at O;exact O
 have hb:∀b,H b=none->b≠e:=λb n z=>by
  subst z;rcases he with r|r
  ·exact hx b n r
  ·rw[n]at r;cases r
 have hm:∀b u,H b=some u->¬NR (some u)->b≠x:=λb u q nm z=>by subst z;rw[q]at O;exact nm O
 refine⟨λb u q n _ _=>k b u (hb b n) q,λb u q n _ _=>⟨u.slots,k b u (hb b n) q⟩,λb u q n _=>by rw[aD (hx b n)];exact n,λb u q _=>?_,
  λb xs q=>by rw[aD (hm b _ q λz=>z)];exact q,λb u xs q=>by rw[aD (hm b _ q λz=>z)];exact q,λb ps q=>by rw[aD (hm b _ q λz=>z)];exact q⟩
 by_cases M:b=e
 ·subst M;exact T
 ·exact⟨u,k b u M q⟩
end
noncomputable def Q9 (h:Heap)(H:Hp):List Addr:=(List.range h.objs.size).filter λa=>(H a).isSome
def xy (h:Heap)(H:Hp):Heap:=PySem.W.hideAll h (Q9 h H)
theorem C2 (h:Heap)(H:Hp):(xy h H).objs.size=h.objs.size:=PySem.W.hideAll_size _ _
theorem pO (e:h.get? b=some o)(n:H b=none):(xy h H).get? b=some o :=
 PySem.W.hideAll_get _ e λhm=>by
  have q:(H b).isSome=true:=(vN hm).2;rw[n]at q;simp at q
theorem Hm (e:(xy h H).get? b=some o):h.get? b=some o/\H b=none:=by
 have M:h.get? b=some o:=PySem.W.of_hideAll (Q9 h H) e;refine⟨M,?_⟩;cases q:H b with
 |none=>rfl
 |some x=>
  have hm:b∈Q9 h H:=mem_filter.mpr ⟨mem_range.mpr (vX M),by simp[q]⟩;have z:(xy h H).get? b=none:=PySem.W.hideAll_none (Q9 h H) hm;rw[z]at e;cases e
noncomputable def Hn (g h:Heap)(L:Addr):AO:=(List.range h.objs.size).filterMap λa=>if a=L\/(g.get? a).isSome=true then none else (h.get? a).map λo=>(a,o)
def aH (g h:Heap)(L d:Addr):AO:=(Hn g h L).filter λp=>decide (p.1≠d)
structure Mod (K:Frag)(mg:Str->Option Value)(base:Heap):Prop where
 kin:K.In base
 glob:base.Ns mainGlobals mg
 blt:∃mb,base.Ns builtinsNs mb/\∀x:Str,x ≠ "__name__"->mb x=bootBuiltins x
 nolimit:base.NoLimit
 bmain:∃bm ob,mg "__builtins__" = some (.ref bm)/\bm≠builtinsNs/\base.get? bm=some ob/\ob.cls=.type "module"/\ob.dict=some builtinsNs/\ob.data=.plain
structure Cx where
 prog:Program
 w:World
 K:Frag
 mg:Str->Option Value
 base:Heap
 A:Around
 N:List Str
 s₀:Shared
 H₀:Hp
 env:Env
 outer:List Env
 stack:List Env
 ex:List Addr
 fn:Str->Bool
 calm:Bool
 pn:List (Addr×Obj)
 xe:Value->Shared->Prop
noncomputable def DU (l:List Env):List Addr:=l.filterMap (·.frame)
abbrev Cx.fs (X:Cx):List Addr:=DU X.outer
def KP (sc:Scope)(x:Str):Prop:=sc.names.lookup x=some .local\/sc.names.lookup x=some .cell\/sc.names.lookup x=some .free
def GY (sc:Scope)(x:Str):Prop:=sc.names.lookup x=some .local\/sc.names.lookup x=some .cell
def R3 (env:Env)(h:Heap)(m:SV)(x:Str)(u:Value):Prop :=
 (env.kindOf x=some .local/\m x=some u)\/((env.kindOf x=some .cell\/env.kindOf x=some .free)/\∃c,env.cells.lookup x=some c/\h.IsCell c (some u))
abbrev wq {α:Type}(X:Cx):Sem α->(α->Shared->Prop)->(Value->Shared->Prop)->Shared->Prop:=wpAny (model X.prog X.w) X.A
structure Cx.Ok (X:Cx):Prop where
 mod:Mod X.K X.mg X.base
 kind:X.env.scope.kind=.function
 glob:X.env.globals=mainGlobals
 blt:X.env.builtins=builtinsNs
 above:X.s₀.heap.objs.size<=X.env.locals
 inj:∀x y c,X.env.cells.lookup x=some c->X.env.cells.lookup y=some c->x=y
 has:∀x,(X.env.kindOf x=some .cell\/X.env.kindOf x=some .free)->∃c,X.env.cells.lookup x=some c
 cab:∀x c,X.fn x=true->X.env.cells.lookup x=some c->X.s₀.heap.objs.size<=c
 hd:X.calm=true->X.A.handled=none
 frames:X.A.frames=some X.stack
 stk:X.stack=X.outer\/(X.stack=X.env::X.outer/\X.env.frame=some X.env.locals)
 exf:∀b∈X.ex,b≠X.env.locals/\∀x c,X.env.cells.lookup x=some c->c≠b
 bs:∀b o,X.base.get? b=some o->X.s₀.heap.get? b=some o/\X.H₀ b=none
 bsz:X.base.objs.size<=X.s₀.heap.objs.size
 noex:∀b o,X.base.get? b=some o->b∉X.ex
 exfs:∀b∈X.ex,b∉X.fs
 funs:X.s₀.heap.FunFrames X.base X.outer
 frf:∀b∈X.fs,X.H₀ b=none
structure Inv (X:Cx)(ae:List (Addr×Obj))(σ:List (Option V))(H:Hp)(s:Shared):Prop where
 ok:X.Ok
 os:s.os=X.s₀.os
 bare:AllBare s.gens
 base:Un X.fs X.ex X.H₀ H X.s₀.heap s.heap
 loc:∃m,s.heap.Ns X.env.locals m/\∀(i:Nat)(x:Str)(v:V),X.N[i]? = some x->σ[i]? = some (some v)->KP X.env.scope x->∃u,aZ v u/\R3 X.env s.heap m x u
 cell:∀x c,X.env.cells.lookup x=some c->∃v,s.heap.IsCell c v
 free:H X.env.locals=none
 freeC:∀x c,X.env.cells.lookup x=some c->H c=none
 pin:∀p∈X.pn++ae,s.heap.get? p.1=some p.2/\H p.1=none/\p.1≠X.env.locals/\p.1∉X.fs/\∀v,p.2.data≠.cell v
 hok:lx X.prog X.w H s.heap
 len:σ.length=X.N.length
section
variable {X:Cx}{ae:AO}{σ:List (Option V)}{H H':Hp}{s:Shared}{h':Heap}
theorem Cx.Ok.nofr (ok:X.Ok)(e:X.base.get? b=some o):b∉X.fs:=λhb=>by
 have:=(ok.funs.mem hb).1;rw[e]at this;cases this
theorem Inv.bs (I:Inv X ae σ H s):∀b o,X.base.get? b=some o->s.heap.get? b=some o/\H b=none:=λb o e=>
 ⟨I.base.keep b o (I.ok.bs b o e).1 (I.ok.bs b o e).2 (I.ok.nofr e) (I.ok.noex b o e),I.base.free b o (I.ok.bs b o e).1 (I.ok.bs b o e).2 (I.ok.noex b o e)⟩
theorem Inv.bk (I:Inv X ae σ H s):∀b o,X.base.get? b=some o->s.heap.get? b=some o:=λb o e=>(I.bs b o e).1
theorem Inv.mod (I:Inv X ae σ H s):Mod X.K X.mg X.base:=I.ok.mod
theorem Inv.kIn (I:Inv X ae σ H s):X.K.In s.heap:=I.ok.mod.kin.keeps I.bk
theorem Inv.nolimit (I:Inv X ae σ H s):s.heap.NoLimit:=I.ok.mod.nolimit.keeps I.bk
theorem Inv.lt (I:Inv X ae σ H s):X.env.locals<s.heap.objs.size:=let ⟨_,hn,_⟩:=I.loc;hn.lt
theorem Inv.sz (I:Inv X ae σ H s):X.s₀.heap.objs.size<=s.heap.objs.size:=vR I.ok.above (le_of_lt I.lt)
theorem Inv.nofs (I:Inv X ae σ H s)(h:s.heap.objs.size<=a):a∉X.fs:=λhb=>by
 obtain⟨_,o,M,_⟩:=I.ok.funs.mem hb;exact absurd (vQ (vX M) (vR I.sz h)) (Nat.lt_irrefl _)
theorem Inv.cne (I:Inv X ae σ H s):∀x c,X.env.cells.lookup x=some c->c≠X.env.locals:=λx c e z=>by
 obtain⟨v,o,T,hd⟩:=I.cell x c e;obtain⟨m,⟨o',es,U,M,O,_⟩,_⟩:=I.loc;rw[z,M]at T;cases T;rw[O]at hd;cases hd
theorem Inv.funs (I:Inv X ae σ H s):s.heap.FunFrames X.base X.outer:=by
 have all:∀(l:List Env),(∀b∈DU l,b∈X.fs)->X.s₀.heap.FunFrames X.base l->s.heap.FunFrames X.base l:=by
  intro l;induction l with
  |nil=>intro _ _;trivial
  |cons env r O=>
   intro hs hl;obtain⟨hk,⟨L,o,hf,hn,T,hd⟩,hr⟩:=hl;have M:L∈X.fs:=hs L (by unfold DU;rw[List.filterMap_cons,hf];exact mX);obtain⟨sl,e⟩:=I.base.slot L o T (I.ok.frf L M) M λz=>I.ok.exfs L z M;exact⟨hk,⟨L,_,hf,hn,e,hd⟩,O (λb hb=>hs b (by unfold DU;rw[List.filterMap_cons,hf];exact mZ _ hb)) hr⟩
 exact all X.outer (λ_ hb=>hb) I.ok.funs
theorem Inv.stack (I:Inv X ae σ H s):s.heap.FunFrames X.base X.stack:=by
 rcases I.ok.stk with e|⟨e,hf⟩
 ·rw[e];exact I.funs
 ·rw[e];obtain⟨m,hn,_⟩:=I.loc;refine .cons (by rw[I.ok.kind];decide) hf hn ?_ I.funs;exact Heap.get?_none_of_le (vR I.ok.bsz I.ok.above)
theorem Inv.stkSub (I:Inv X ae σ H s):∀b∈DU X.stack,b∈X.env.locals::X.fs:=λb hb=>by
 rcases I.ok.stk with e|⟨e,hf⟩
 ·rw[e]at hb;exact mZ _ hb
 ·rw[e]at hb;unfold DU at hb;rw[List.filterMap_cons,hf]at hb;exact hb
theorem Inv.stkFree (I:Inv X ae σ H s):∀b∈DU X.stack,H b=none:=λb hb=>by
 rcases vP (I.stkSub b hb)with e|hb
 ·rw[e];exact I.free
 ·obtain⟨_,o,M,_⟩:=I.ok.funs.mem hb;exact I.base.free b o M (I.ok.frf b hb) λz=>I.ok.exfs b z hb
theorem Inv.step {g':Array GenState}{t':Nat}{d':Drawn}{ch:List Addr}(I:Inv X ae σ H s)
  (M:∀b∈ch,(b∈X.ex\/X.s₀.heap.objs.size<=b)/\b≠X.env.locals/\(∀x c,X.env.cells.lookup x=some c->c≠b)/\∀p∈X.pn++ae,p.1≠b)
  (keep:∀b o,b≠X.env.locals->b∉X.fs->b∉ch->s.heap.get? b=some o->H b=none->h'.get? b=some o)
  (slot:∀b o,b≠X.env.locals->b∈X.fs->b∉ch->s.heap.get? b=some o->H b=none->∃sl,h'.get? b=some { o with slots:=sl }) (free:∀b o,b∉ch->s.heap.get? b=some o->H b=none->H' b=none)
  (there:∀b o,b∉ch->s.heap.get? b=some o->∃o',h'.get? b=some o')
  (tups:∀b xs,H b=some (.tup xs)->H' b=some (.tup xs)) (frzs:∀b o u,H b=some (.frz o u)->H' b=some (.frz o u)) (tbls:∀b q,H b=some (.tbl q)->H' b=some (.tbl q))
  (ns:∀m,s.heap.Ns X.env.locals m->h'.Ns X.env.locals m) (hok:lx X.prog X.w H' h') (j:AllBare g'):
  Inv X ae σ H' { s with heap:=h',gens:=g',drawn:=d',toks:=t' }:=by
 have g:∀b o,X.s₀.heap.get? b=some o->b≠X.env.locals:=λb o e=>vS (vQ (vX e) I.ok.above);have U:∀b o,X.s₀.heap.get? b=some o->b∉X.ex->b∉ch:=λb o e hx hb=>by
  rcases (M b hb).1 with z|z
  ·exact hx z
  ·exact absurd (vQ (vX e) z) (Nat.lt_irrefl _)
 have O:∀x c,X.env.cells.lookup x=some c->∀v,s.heap.IsCell c v->h'.IsCell c v:=λx c e v ⟨o,f,hd⟩=>by
  have T:c∉ch:=λz=>(M c z).2.2.1 x c e rfl;by_cases hc:c∈X.fs
  ·obtain⟨sl,q⟩:=slot c o (I.cne x c e) hc T f (I.freeC x c e);exact⟨_,q,hd⟩
  ·exact⟨o,keep c o (I.cne x c e) hc T f (I.freeC x c e),hd⟩
 refine⟨I.ok,I.os,j,⟨λb o e n hb hx=>?_,λb o e n hb hx=>?_,λb o e n hx=>?_,λb o e hx=>?_,λb xs e=>tups b xs (I.base.tups b xs e),λb o xs e=>frzs b o xs (I.base.frzs b o xs e),λb ps e=>?_⟩,?_,λx c e=>?_,?_,λx c e=>?_,λp hp=>?_,hok,I.len⟩
 ·exact keep b o (g b o e) hb (U b o e hx) (I.base.keep b o e n hb hx) (I.base.free b o e n hx)
 ·obtain⟨sl,a⟩:=I.base.slot b o e n hb hx;obtain⟨t,e2⟩:=slot b _ (g b o e) hb (U b o e hx) a (I.base.free b o e n hx);exact⟨t,e2⟩
 ·obtain⟨o',a⟩:=I.base.there b o e hx;exact free b o' (U b o e hx) a (I.base.free b o e n hx)
 ·obtain⟨o',a⟩:=I.base.there b o e hx;exact there b o' (U b o e hx) a
 ·exact tbls b _ (I.base.tbls b ps e)
 ·obtain⟨m,hn,hl⟩:=I.loc;refine⟨m,ns m hn,λi x v a e2 y=>?_⟩;obtain⟨u,r,l⟩:=hl i x v a e2 y;refine⟨u,r,?_⟩;rcases l with l|⟨k,c,e,z⟩
  ·exact .inl l
  ·exact .inr ⟨k,c,e,O x c e _ z⟩
 ·obtain⟨v,z⟩:=I.cell x c e;exact⟨v,O x c e v z⟩
 ·obtain⟨m,⟨o,_,_,f,_⟩,_⟩:=I.loc;exact free _ o (λz=>(M _ z).2.1 rfl) f I.free
 ·obtain⟨v,o,f,hd⟩:=I.cell x c e;exact free c o (λz=>(M c z).2.2.1 x c e rfl) f (I.freeC x c e)
 ·obtain⟨e,n,ne,h,d⟩:=I.pin p hp;have T:p.1∉ch:=λz=>(M p.1 z).2.2.2 p hp rfl;exact⟨keep p.1 p.2 ne h T e n,free p.1 p.2 T e n,ne,h,d⟩
theorem Inv.un {t':Nat}(I:Inv X ae σ H s)(u:Un X.fs [] H H' s.heap h')(hok:lx X.prog X.w H' h'):Inv X ae σ H' { s with heap:=h',toks:=t' }:=by
 obtain⟨m,⟨o,es,d,U,r⟩,_⟩:=id I.loc;obtain⟨sl,a⟩:=u.any U I.free (by simp);exact I.step (g':=s.gens) (d':=s.drawn) (ch:=[]) (λ_ z=>nomatch z) (λb o _ hb _ e n=>u.keep b o e n hb (by simp)) (λb o _ hb _ e n=>u.slot b o e n hb (by simp)) (λb o _ e n=>u.free b o e n (by simp)) (λb o _ e=>u.there b o e (by simp)) u.tups u.frzs u.tbls (λf hm=>by
  obtain⟨o',O,T,M,c⟩:=hm;rw[U]at M;cases M;exact⟨_,O,T,a,c⟩) hok I.bare
theorem Inv.call {g':Array GenState}{t':Nat}{d':Drawn}{ch:List Addr}(I:Inv X ae σ H s)(u:Un (DU X.stack) ch H H' s.heap h')(hok:lx X.prog X.w H' h')(d:AllBare g')
  (M:∀b∈ch,(b∈X.ex\/X.s₀.heap.objs.size<=b)/\b≠X.env.locals/\(∀x c,X.env.cells.lookup x=some c->c≠b)/\∀p∈X.pn++ae,p.1≠b):
  Inv X ae σ H' { s with heap:=h',gens:=g',drawn:=d',toks:=t' }:=by
 obtain⟨m,⟨o,es,h,a,r⟩,_⟩:=id I.loc;obtain⟨sl,T⟩:=u.any a I.free λz=>(M _ z).2.1 rfl;exact I.step (ch:=ch) M (λb o T hb hc e n=>u.keep b o e n (λz=>(vP (I.stkSub b z)).elim T hb) hc) (λb o _ _ hc e n=>u.any e n hc) (λb o hc e n=>u.free b o e n hc) (λb o hc e=>u.there b o e hc) u.tups u.frzs u.tbls (λi hm=>by
  obtain⟨o',U,f,O,g⟩:=hm;rw[a]at O;cases O;exact⟨_,U,f,T,g⟩) hok d
theorem Inv.turned {t':Nat}{it:Addr}(I:Inv X ae σ H s)(k:∀b o,b≠it->s.heap.get? b=some o->h'.get? b=some o)(hn:H it=none)(O:it≠X.env.locals)
  (h1:it∈X.ex\/X.s₀.heap.objs.size<=it) (h2:∀x c,X.env.cells.lookup x=some c->c≠it) (h3:∀p∈X.pn++ae,p.1≠it):Inv X ae σ H { s with heap:=h',toks:=t' }:=by
 have M:∀b u,H b=some u->b≠it:=λb u e z=>by rw[z,hn]at e;cases e
 refine I.step (g':=s.gens) (d':=s.drawn) (ch:=[it]) (λb hb=>?_) (λb o _ _ hc e _=>k b o (λz=>hc (by simp[z])) e) (λb o _ _ hc e _=>⟨o.slots,k b o (λz=>hc (by simp[z])) e⟩) (λ_ _ _ _ n=>n)
  (λb o hc e=>⟨o,k b o (λz=>hc (by simp[z])) e⟩) (λ_ _ e=>e) (λ_ _ _ e=>e) (λ_ _ e=>e) (λm hm=>?_) (λb u e=>?_) I.bare
 ·have e:b=it:=by simpa using hb
  subst e;exact⟨h1,O,h2,h3⟩
 ·obtain⟨o,es,T,U,r⟩:=hm;exact⟨o,es,T,k _ o (Ne.symm O) U,r⟩
 ·refine(I.hok b u e).stay (λc v hc q=>k c v ?_ q) (λ_ q=>q) (λ_ _ q=>q) λ_ _ _ q=>q;rcases hc with z|z
  ·rw[z];exact M b u e
  ·exact M c _ z
theorem Inv.tok (I:Inv X ae σ H s)(t:Nat):Inv X ae σ H { s with toks:=t }:=I.un (h':=s.heap) (t':=t) Un.refl I.hok
theorem Inv.kept (I:Inv X ae σ H s)(k:∀b u,s.heap.get? b=some u->h'.get? b=some u):Inv X ae σ H { s with heap:=h',toks:=t' }:=I.un (Un.kept k) (I.hok.kept k)
theorem Inv.laid (I:Inv X ae σ H s)(k:∀b u,s.heap.get? b=some u->h'.get? b=some u)(hp:s.heap.objs.size<=a)(new:c7 X.prog X.w (upd H a o) h' a o):
  Inv X ae σ (upd H a o) { s with heap:=h',toks:=t' }:=I.un (Un.laid k hp (I.hok.fresh hp)) (I.hok.laid k hp new)
theorem Inv.write (I:Inv X ae σ H s)(O:NR (H x))(he:e=x\/H e=some (.own x))(k:∀b u,b≠e->s.heap.get? b=some u->h'.get? b=some u)(M:∃u,h'.get? e=some u)
  (new:c7 X.prog X.w (upd H x o) h' x o):Inv X ae σ (upd H x o) { s with heap:=h',toks:=t' }:=I.un (Un.write O he k M) (I.hok.write O he k M new)
theorem Inv.pins_of (I:Inv X ae σ H s)(h:∀p∈M,s.heap.get? p.1=some p.2/\H p.1=none/\p.1≠X.env.locals/\p.1∉X.fs/\∀v,p.2.data≠.cell v):Inv X M σ H s :=
 ⟨I.ok,I.os,I.bare,I.base,I.loc,I.cell,I.free,I.freeC,λp hp=>(mem_append.mp hp).elim (λz=>I.pin p (mem_append_left _ z)) (h p),I.hok,I.len⟩
theorem xz {N:LS}(M:N.Nodup){i j:Nat}{x:Str}(a:N[i]? = some x)(b:N[j]? = some x):i=j:=by
 obtain⟨h1,O⟩:=vV a;obtain⟨h2,e2⟩:=vV b;exact(List.getElem_inj M).mp (O.trans e2.symm)
theorem nj {M:Model}{A:Around}{E:QV}{i:Nat}{x:Str}{v:V}{u:Value}{Q:Unit->Shared->Prop}(I:Inv X ae σ H s)(J:X.N.Nodup)(hi:X.N[i]? = some x)(hx:GY X.env.scope x)(r:aZ v u)
  (h:∀s',Inv X ae (σ.set i (some v)) H s'->(∃a,Heap.SameBut a s.heap s'.heap/\(a=X.env.locals\/X.env.cells.lookup x=some a))->Q () s') (hf:X.fn x=true\/X.env.scope.names.lookup x=some .local:=by first|exact .inl rfl|exact .inr rfl|assumption):wpAny M A (storeName X.env x u) Q E s:=by
 obtain⟨m,hn,hl⟩:=id I.loc;have R:(X.env.scope.kind == .class || (X.env.scope.kind == .module && X.env.locals != X.env.globals))=false:=by rw[I.ok.kind];rfl
 have K:i<σ.length:=by rw[I.len];exact(vV hi).1
 have cne:=I.cne;have O:∀ {a:Addr}{h':Heap},(∃o,s.heap.get? a=some o/\H a=none)->Heap.SameBut a s.heap h'->lx X.prog X.w H h':=λ{a h'} ha hs b ob e=>by
  obtain⟨_,_,U⟩:=ha;refine(I.hok b ob e).stay (λc g hc q=>(hs.2 c ?_).trans q) (λ_ q=>q) (λ_ _ q=>q) λ_ _ _ q=>q;rintro rfl;rcases hc with rfl|hc
  ·rw[U]at e;cases e
  ·rw[U]at hc;cases hc
 rcases hx with hk|hk
 ·refine wpAny_storeName_local hk hn (λh' S hs=>?_) R;obtain⟨W,_,_,Y,_⟩:=id hn;refine h _ ⟨I.ok,I.os,I.bare,⟨λb o e n hb hx=>?_,λb o e n hb hx=>?_,I.base.free,λb o e hx=>?_,I.base.tups,I.base.frzs,I.base.tbls⟩,⟨_,S,λj y t T e2 B=>?_⟩,λy c e=>?_,I.free,I.freeC,λp hp=>?_,O ⟨W,Y,I.free⟩ hs,by simpa using I.len⟩ ⟨_,hs,.inl rfl⟩
  ·exact(hs.2 b (vS (vQ (vX e) I.ok.above))).trans (I.base.keep b o e n hb hx)
  ·obtain⟨sl,T⟩:=I.base.slot b o e n hb hx;exact⟨sl,(hs.2 b (vS (vQ (vX e) I.ok.above))).trans T⟩
  ·obtain⟨o',T⟩:=I.base.there b o e hx;exact⟨o',(hs.2 b (vS (vQ (vX e) I.ok.above))).trans T⟩
  ·by_cases hj:j=i
   ·subst hj;rw[hi]at T;cases T;rw[List.getElem?_set_self K]at e2;cases e2
    exact⟨u,r,.inl ⟨hk,by simp⟩⟩
   ·rw[vB (Ne.symm hj)]at e2;obtain⟨C,D,q⟩:=hl j y t T e2 B;refine⟨C,D,?_⟩;rcases q with⟨k,e⟩|⟨k,c,e,z⟩
    ·refine .inl ⟨k,?_⟩;have:y≠x:=λe=>hj (xz J T (e ▸ hi));simp[this,e]
    ·exact .inr ⟨k,c,e,z.sameBut hs (cne y c e)⟩
  ·obtain⟨g,z⟩:=I.cell y c e;exact⟨g,z.sameBut hs (cne y c e)⟩
  ·obtain⟨e,n,ne,F,d⟩:=I.pin p hp;exact⟨(hs.2 p.1 ne).trans e,n,ne,F,d⟩
 ·have G:X.fn x=true:=by
   rcases hf with z|z
   ·exact z
   ·rw[z]at hk;cases hk
  obtain⟨c,hc⟩:=I.ok.has x (.inl hk);obtain⟨g,z⟩:=I.cell x c hc;refine wpAny_storeName_cell I.ok.kind hk hc z (λh' L hs=>?_);obtain⟨oc,P,Z⟩:=id z;refine h { s with heap:=h' } ⟨I.ok,I.os,I.bare,⟨λb o e n hb hx=>?_,λb o e n hb hx=>?_,I.base.free,λb o e hx=>?_,I.base.tups,I.base.frzs,I.base.tbls⟩,⟨m,hn.sameBut hs (Ne.symm (cne x c hc)),λj y t T e2 B=>?_⟩,λy l e=>?_,I.free,I.freeC,λp hp=>?_,O ⟨oc,P,I.freeC x c hc⟩ hs,by simpa using I.len⟩ ⟨c,hs,.inr hc⟩
  ·exact(hs.2 b (vS (vQ (vX e) (I.ok.cab x c G hc)))).trans (I.base.keep b o e n hb hx)
  ·obtain⟨sl,T⟩:=I.base.slot b o e n hb hx;exact⟨sl,(hs.2 b (vS (vQ (vX e) (I.ok.cab x c G hc)))).trans T⟩
  ·obtain⟨o',T⟩:=I.base.there b o e hx;exact⟨o',(hs.2 b (vS (vQ (vX e) (I.ok.cab x c G hc)))).trans T⟩
  ·by_cases hj:j=i
   ·subst hj;rw[hi]at T;cases T;rw[List.getElem?_set_self K]at e2;cases e2
    exact⟨u,r,.inr ⟨.inl hk,c,hc,L⟩⟩
   ·rw[vB (Ne.symm hj)]at e2;obtain⟨C,D,q⟩:=hl j y t T e2 B;refine⟨C,D,?_⟩;rcases q with q|⟨k,l,e,z'⟩
    ·exact .inl q
    ·refine .inr ⟨k,l,e,z'.sameBut hs ?_⟩;rintro rfl;exact hj (xz J T (I.ok.inj _ _ _ e hc ▸ hi))
  ·by_cases f:l=c
   ·subst f;exact⟨_,L⟩
   ·obtain⟨w2,z2⟩:=I.cell y l e;exact⟨w2,z2.sameBut hs f⟩
  ·obtain⟨e,n,ne,F,d⟩:=I.pin p hp;refine⟨(hs.2 p.1 ?_).trans e,n,ne,F,d⟩;intro q;rw[q,P]at e;have q':oc=p.2:=vK e;exact d g (by rw[<-q'];exact Z)
theorem x0 {M:Model}{A:Around}{E:QV}{i:Nat}{x:Str}{v:V}{u:Value}{Q:Unit->Shared->Prop}(I:Inv X ae σ H s)(O:X.N.Nodup)(hi:X.N[i]? = some x)(hx:GY X.env.scope x)(r:aZ v u)
  (h:∀s',Inv X ae (σ.set i (some v)) H s'->Q () s') (hf:X.fn x=true\/X.env.scope.names.lookup x=some .local:=by first|exact .inl rfl|exact .inr rfl|assumption):wpAny M A (storeName X.env x u) Q E s :=
 nj I O hi hx r (λs' T _=>h s' T) hf
theorem Inv.call' (I:Inv X ae σ H s)(O:s'.os=s.os)(u:Un (DU X.stack) ch H H' s.heap s'.heap)(hok:lx X.prog X.w H' s'.heap)(T:AllBare s'.gens)
  (M:∀b∈ch,(b∈X.ex\/X.s₀.heap.objs.size<=b)/\b≠X.env.locals/\(∀x c,X.env.cells.lookup x=some c->c≠b)/\∀p∈X.pn++ae,p.1≠b):Inv X ae σ H' s':=by
 obtain⟨h',g',d',t',o'⟩:=s';have e:o'=s.os:=O;subst e;exact I.call (g':=g') (t':=t') (d':=d') u hok T M
end
abbrev XK:=Value->Option Addr->Hp->Prop
abbrev St:=List (Option V)
abbrev VK:=V->Hp->Prop
abbrev TE:=St->Hp->VK->Prop
abbrev TT:=St->Hp->(Bool->Hp->Prop)->Prop
abbrev TA:=St->Hp->(List V->Hp->Prop)->Prop
structure Ends where
 nx:St->Hp->Prop
 rt:VK
 bk:St->Hp->Prop:=λ_ _=>False
 ct:St->Hp->Prop:=λ_ _=>False
abbrev TS:=Ends->St->Hp->Prop
def EP (X:Cx)(ae:AO)(σ:St)(Q:VK)(u:Value)(s':Shared):Prop:=∃v H',Inv X ae σ H' s'/\aZ v u/\Q v H'
def TP (X:Cx)(ae:AO)(σ:St)(Q:Bool->Hp->Prop)(b:Bool)(s':Shared):Prop:=∃H',Inv X ae σ H' s'/\Q b H'
def AP (X:Cx)(ae:AO)(σ:St)(Q:List V->Hp->Prop)(us:LU)(s':Shared):Prop:=∃vs H',Inv X ae σ H' s'/\bj vs us/\Q vs H'
def SP (X:Cx)(ae:AO)(D:Ends)(f:Flow)(s':Shared):Prop :=
 match f with
 |.next=>∃M H',Inv X ae M H' s'/\D.nx M H'
 |.brk=>∃M H',Inv X ae M H' s'/\D.bk M H'
 |.cont=>∃M H',Inv X ae M H' s'/\D.ct M H'
 |.ret u=>∃v M H',Inv X ae M H' s'/\aZ v u/\D.rt v H'
def PE (X:Cx)(e:Expr)(t:TE):Prop :=
 ∀(ae:AO)(s:Shared)(σ:St)(H:Hp)(Q:VK),Inv X ae σ H s->t σ H Q->wq X (eval e X.env) (EP X ae σ Q) X.xe s
def PT (X:Cx)(e:Expr)(t:TT):Prop :=
 ∀(ae:AO)(s:Shared)(σ:St)(H:Hp)(Q:Bool->Hp->Prop),Inv X ae σ H s->t σ H Q->wq X (isTrue e X.env (eval e X.env)) (TP X ae σ Q) X.xe s
def PW (X:Cx)(e:Expr)(t:TT):Prop :=
 ∀(M:Sem Value)(ae:AO)(s:Shared)(σ:St)(H:Hp)(Q:Bool->Hp->Prop),Inv X ae σ H s->t σ H Q->wq X (isTrue e X.env M) (TP X ae σ Q) X.xe s
theorem PW.pt (h:PW X e t):PT X e t:=h _
def PA (X:Cx)(es:QD)(t:TA):Prop :=
 ∀(M:Pos)(ae:AO)(s:Shared)(σ:St)(H:Hp)(Q:List V->Hp->Prop),Inv X ae σ H s->t σ H Q->wq X (spliced (backTo M (starEach es X.env))) (AP X ae σ Q) X.xe s
def PS (X:Cx)(st:Stmt)(t:TS):Prop :=
 ∀(ae:AO)(s:Shared)(σ:St)(H:Hp)(D:Ends),Inv X ae σ H s->t D σ H->wq X (exec st X.env) (SP X ae D) X.xe s
def sP (X:Cx)(st:List Stmt)(t:TS):Prop :=
 ∀(ae:AO)(s:Shared)(σ:St)(H:Hp)(D:Ends),Inv X ae σ H s->t D σ H->wq X (execs st X.env) (SP X ae D) X.xe s
theorem cA {α:Type}{t:Sem α}{Q O:α->Shared->Prop}{M:Model}{A:Around}{E:QV}{s:Shared}(h:wpAny M A t Q E s)(T:∀a s,Q a s->O a s):wpAny M A t O E s:=wpAny_mono h T λ_ _ x=>x
section
variable {X:Cx}
def pP (i:Nat):TE:=λσ H Q=>∃v,σ[i]? = some (some v)/\Q v H
def tC (v:V):TE:=λ_ H Q=>Q v H
theorem cF (T:X.N[i]? = some x)(hv:KP X.env.scope x)(hd:(x == ("__debug__" : Str))=false:=by decide)(O:(x == ("__classdict__" : Str))=false:=by decide):PE X (.Name x U) (pP i):=by
 intro ae s σ H Q I h;obtain⟨v,e,h⟩:=h;obtain⟨m,hn,hl⟩:=I.loc;obtain⟨u,r,l⟩:=hl i x v T e hv;have fin:EP X ae σ Q u s:=⟨v,H,I,r,h⟩;rcases l with⟨hk,hm⟩|⟨hk,c,hc,M⟩
 ·exact wpAny_Name (wpAny_loadName_local I.ok.kind hk hn hm fin) hd
 ·rcases hk with hk|hk
  ·exact wpAny_Name (wpAny_loadName_cell I.ok.kind hk hc M fin) hd
  ·exact wpAny_Name (wpAny_loadName_free I.ok.kind hk hc M fin O) hd
theorem KQ {i j M}:PE X (.Constant (.int i) j M) (tC (.int i)):=λ_ _ _ H _ I h=>wpAny_Constant_int ⟨.int i,H,I.tok _,⟨_,rfl⟩,h⟩
theorem NS {b j M}:PE X (.Constant (.bool b) j M) (tC (.bl b)):=λ_ _ _ H _ I h=>Constant_bool ⟨.bl b,H,I,rfl,h⟩
theorem KR {j M}:PE X (.Constant .none j M) (tC .non):=λ_ _ _ H _ I h=>Constant_none ⟨.non,H,I,rfl,h⟩
theorem KS {x j M}:PE X (.Constant (.str x) j M) (tC (.str x)):=λ_ _ _ H _ I h=>Calls.Constant_str ⟨.str x,H,I.tok _,⟨_,rfl⟩,h⟩
def Gl (X:Cx)(x:Str):Prop:=X.env.kindOf x=some .globalImplicit
theorem vg {E:QV}{ae:AO}{s:Shared}{σ:St}{H:Hp}{x:Str}{u:Value}{M:Pos}{Q:QV}(I:Inv X ae σ H s)(O:Gl X x)(hm:X.mg x=some u)(h:Q u s)
  (hd:(x == ("__debug__" : Str))=false:=by decide):wq X (eval (.Name x M) X.env) Q E s :=
 Calls.Name_function_global I.ok.kind O (Calls.loadGlobal_global (by rw[I.ok.glob];exact I.mod.glob.keeps I.bk) hm h) hd
theorem lK {E:QV}{ae:AO}{s:Shared}{σ:St}{H:Hp}{x:Str}{u:Value}{M:Pos}{Q:QV}(I:Inv X ae σ H s)(O:Gl X x)(hm:X.mg x=none)(hv:bootBuiltins x=some u)(h:Q u s)
  (hn:x ≠ "__name__":=by decide) (hd:(x == ("__debug__" : Str))=false:=by decide):wq X (eval (.Name x M) X.env) Q E s:=by
 obtain⟨mb,h1,h2⟩:=I.mod.blt;exact Calls.Name_function_global I.ok.kind O (Calls.loadGlobal_builtin (by rw[I.ok.glob];exact I.mod.glob.keeps I.bk) hm (by rw[I.ok.blt];exact h1.keeps I.bk) ((h2 x hn).trans hv) h) hd
theorem AF (M:Gl X x)(hm:X.mg x=some u)(r:aZ v u)(hd:(x == ("__debug__" : Str))=false:=by decide):PE X (.Name x O) (tC v) :=
 λ_ _ _ H _ I h=>vg I M hm ⟨v,H,I,r,h⟩ hd
def Wb (M tb:TE)(k:Int->Int->Hp->Prop):St->Hp->Prop:=λσ H=>M σ H λx O=>tb σ O λy H2=>∃i j,x=.int i/\y=.int j/\k i j H2
variable {a b:Expr}{ta tb:TE}{pos:Pos}
def PC (X:Cx)(op:CmpOp)(a b:Expr)(t:TE):Prop :=
 ∀(ae:AO)(s:Shared)(σ:St)(H:Hp)(Q:VK),Inv X ae σ H s->t σ H Q ->
  wq X (eval a X.env) (λv M=>wq X (eval b X.env) (λu O=>wq X (compareOp op v u) (EP X ae σ Q) X.xe O) X.xe M) X.xe s
theorem kg (b:Expr){op:CmpOp}(h:op≠.In)(h2:op≠.NotIn):behindInMarks op b=false:=by
 have M:(op == CmpOp.In)=false:=by cases op<;>first|rfl|exact absurd rfl h
 have e2:(op == CmpOp.NotIn)=false:=by cases op<;>first|rfl|exact absurd rfl h2
 cases b<;>simp[behindInMarks,M,e2]
def R4 (p:Int->Int->Bool)(ta tb:TE):TE:=λσ H Q=>Wb ta tb (λi j H2=>Q (.bl (p i j)) H2) σ H
abbrev KU:TE->TE->TE:=R4 λi j=>decide (i<j)
def tB (t:TE):TT:=λσ H Q=>t σ H λx M=>∃c,x=.bl c/\Q c M
theorem KW (h:PC X op a b t)(h1:behindInMarks op b=false:=by first|exact kg _ (by decide) (by decide)|rfl):PE X (.Compare a [op] [b] pos) t:=λae s σ H Q I hw=>wpAny_Compare1 (h ae s σ H Q I hw) h1
theorem KY {op:CmpOp}{t:TE}(h:PC X op a b t)(h1:behindInMarks op b=false:=by first|exact kg _ (by decide) (by decide)|rfl):PT X (.Compare a [op] [b] pos) (tB t):=by
 intro ae s σ H Q I hw;refine wpAny_isTrue_Compare1 (cA (h ae s σ H _ I hw) λv s1 h1=>cA h1 λu s2 h2=>cA h2 λc U ⟨x,M,I1,O,T⟩=>?_) h1;obtain⟨d,rfl,q⟩:=T;cases O
 exact wpAny_truthy_bool ⟨M,I1,q⟩
theorem KZ {e:Expr}{t:TE}(h:PE X e t)(he:∀M,isTrue e X.env M=(do let v <-M;standAt e.pos;holding [v] (truthy v)):=by intro _;rfl):PT X e (tB t):=by
 intro ae s σ H Q I hw;refine isTrue_plain (cA (h ae s σ H _ I hw) λv s1 ⟨x,O,I1,T,U⟩=>?_) (he _);obtain⟨d,rfl,q⟩:=U;cases T
 exact wpAny_truthy_bool ⟨O,I1,q⟩
variable {tA QP:TT}{aH:QD}
def NT (t u:TT):TT:=λσ H Q=>t σ H λc M=>if c=true then u σ M Q else Q false M
def Uc (t u:TT):TT:=λσ H Q=>t σ H λc M=>if c=true then Q true M else u σ M Q
def NU (t:TT):TT:=λσ H Q=>t σ H λc M=>Q (!c) M
theorem Ho (ha:PT X a tA):PW X (.BoolOp .And [a] pos) tA:=by
 intro M ae s σ H Q I h;refine isTrue_and (cA (ha ae s σ H Q I h) λc s1 e=>?_);cases c with
 |true=>exact isTrue_and_nil e
 |false=>exact e
theorem La (ha:PT X a tA):PW X (.BoolOp .Or [a] pos) tA:=by
 intro M ae s σ H Q I h;refine isTrue_or (cA (ha ae s σ H Q I h) λc s1 e=>?_);cases c with
 |false=>exact isTrue_or_nil e
 |true=>exact e
theorem Lb (ha:PT X a tA)(hb:PW X (.BoolOp .And (b::aH) pos) QP):PW X (.BoolOp .And (a::b::aH) pos) (NT tA QP):=by
 intro T ae s σ H Q I h;refine isTrue_and (cA (ha ae s σ H _ I h) λc s1 ⟨M,I1,O⟩=>?_);cases c with
 |true=>exact hb T ae s1 σ M Q I1 O
 |false=>exact⟨M,I1,O⟩
theorem NV (ha:PT X a tA)(hb:PW X (.BoolOp .Or (b::aH) pos) QP):PW X (.BoolOp .Or (a::b::aH) pos) (Uc tA QP):=by
 intro T ae s σ H Q I h;refine isTrue_or (cA (ha ae s σ H _ I h) λc s1 ⟨M,I1,O⟩=>?_);cases c with
 |true=>exact⟨M,I1,O⟩
 |false=>exact hb T ae s1 σ M Q I1 O
theorem Lc (ha:PT X a tA):PT X (.UnaryOp .Not a pos) (NU tA):=by
 intro ae s σ H Q I h;exact isTrue_not (ha ae s σ H (λc M=>Q (!c) M) I h)
def NW (ta tb:TE):TE:=λσ H Q=>ta σ H λx M=>∃c,x=.bl c/\if c=true then tb σ M Q else Q (.bl false) M
def R5 (ta tb:TE):TE:=λσ H Q=>ta σ H λx M=>∃c,x=.bl c/\if c=true then Q (.bl true) M else tb σ M Q
theorem Ld {op}(h:PE X a t):PE X (.BoolOp op [a] pos) t:=λae s σ H Q I hw=>BoolOp_one (h ae s σ H Q I hw)
theorem Le (ha:PE X a ta)(hb:PE X (.BoolOp .And (b::aH) pos) tb):PE X (.BoolOp .And (a::b::aH) pos) (NW ta tb):=by
 intro ae s σ H Q I h;refine BoolOp_and (cA (ha ae s σ H _ I h) λv s1 ⟨x,O,I1,T,M⟩=>?_);obtain⟨c,rfl,M⟩:=M;cases T
 refine wpAny_truthy_bool ?_;cases c with
 |true=>exact hb ae s1 σ O Q I1 M
 |false=>exact⟨.bl false,O,I1,rfl,M⟩
theorem NX (ha:PE X a ta)(hb:PE X (.BoolOp .Or (b::aH) pos) tb):PE X (.BoolOp .Or (a::b::aH) pos) (R5 ta tb):=by
 intro ae s σ H Q I h;refine BoolOp_or (cA (ha ae s σ H _ I h) λv s1 ⟨x,O,I1,T,M⟩=>?_);obtain⟨c,rfl,M⟩:=M;cases T
 refine wpAny_truthy_bool ?_;cases c with
 |false=>exact hb ae s1 σ O Q I1 M
 |true=>exact⟨.bl true,O,I1,rfl,M⟩
end
def fx (K:Frag)(H:Hp)(a:Addr)(xs:List V):Prop :=
 Rd H a (.lst xs) \/
  ∃(o:Obj)(its:AV)(n:Nat),K.lookup a=some o/\o.cls=.type "list"/\o.dict=none/\o.data=.seq its n/\its.size<=sizeLine/\bj xs its.toList
def ji (K:Frag)(H:Hp)(a:Addr)(xs:List V):Prop :=
 Rd H a (.tup xs) \/
  ∃(o:Obj)(its:AV)(n:Nat),K.lookup a=some o/\o.cls=.type "tuple"/\o.data=.seq its n/\its.size<=sizeLine/\bj xs its.toList
noncomputable def R6:Value->Option V
 |.none=>some .non
 |.bool b=>some (.bl b)
 |.int i _=>some (.int i)
 |.str x _=>some (.str x)
 |.bytes b _=>some (.byt b)
 |.float b _=>some (.flt b)
 |.ref a=>some (.ref a)
 |.type n=>some (.ty n)
 |_=>none
theorem aZ.abs (r:aZ x u):R6 u=some x:=by
 cases x with
 |non=>cases r;rfl
 |bl _=>cases r;rfl
 |int _=>obtain⟨t,rfl⟩:=r;rfl
 |str _=>obtain⟨t,rfl⟩:=r;rfl
 |byt _=>obtain⟨t,rfl⟩:=r;rfl
 |flt _=>obtain⟨t,rfl⟩:=r;rfl
 |ref _=>cases r;rfl
 |ty _=>cases r;rfl
theorem aZ.inj (r:aZ x u)(q:aZ y u):x=y:=vK (r.abs.symm.trans q.abs)
theorem bj.inj:∀ {xs ys:List V}{us:LU},bj xs us->bj ys us->xs=ys
 |_,_,_,.nil,.nil=>rfl
 |_,_,_,.cons r t,.cons M t'=>by rw[r.inj M,bj.inj t t']
section
variable {X:Cx}{ae:AO}{σ:St}{H:Hp}{s:Shared}{a:Addr}{xs ys:List V}
theorem fx.of {K:Frag}(h:H a=some (.lst xs)):fx K H a xs:=.inl (.inl h)
theorem ji.of {K:Frag}(h:H a=some (.tup xs)):ji K H a xs:=.inl (.inl h)
theorem Inv.list (I:Inv X ae σ H s)(h:fx X.K H a xs):∃its:LU,bj xs its/\PlainL s.heap a its.toArray/\xs.length<=sizeLine:=by
 rcases h with h|⟨o,its,n,hk,hc,hd,hs,hz,r⟩
 ·obtain⟨z,its,n,r,e⟩:=h.ok I.hok;exact⟨its,r,⟨_,n,e,rfl,rfl,rfl⟩,z⟩
 ·refine⟨its.toList,r,⟨o,n,I.kIn a o hk,hc,hd,by simpa using hs⟩,?_⟩;have e:=r.length;simp only[vG]at e;lia
theorem Inv.tuple (I:Inv X ae σ H s)(h:ji X.K H a xs):∃its:LU,bj xs its/\IsTup s.heap a its.toArray/\xs.length<=sizeLine:=by
 rcases h with h|⟨o,its,n,hk,hc,hs,hz,r⟩
 ·obtain⟨z,its,r,p⟩:=h.ok I.hok;exact⟨its,r,p,z⟩
 ·refine⟨its.toList,r,⟨o,I.kIn a o hk,hc,n,by simpa using hs⟩,?_⟩;have e:=r.length;simp only[vG]at e;lia
theorem Inv.list_inj (I:Inv X ae σ H s)(h:fx X.K H a xs)(h':fx X.K H a ys):xs=ys:=by
 obtain⟨its,r,⟨o,n,e,_,_,d⟩,_⟩:=I.list h;obtain⟨its',O,⟨o',T,M,_,_,d'⟩,_⟩:=I.list h';rw[e]at M;cases M;rw[d]at d';injection d' with d1 _;have:its=its':=by simpa using congrArg Array.toList d1
 subst this;exact r.inj O
theorem Inv.tuple_inj (I:Inv X ae σ H s)(h:ji X.K H a xs)(h':ji X.K H a ys):xs=ys:=by
 obtain⟨its,r,⟨o,e,_,n,d⟩,_⟩:=I.tuple h;obtain⟨its',O,⟨o',M,_,T,d'⟩,_⟩:=I.tuple h';rw[e]at M;cases M;rw[d]at d';injection d' with d1 _;have:its=its':=by simpa using congrArg Array.toList d1
 subst this;exact r.inj O
end
noncomputable abbrev Cx.wish (X:Cx)(E:QV):Cx:={ X with xe:=E }
noncomputable abbrev Cx.nox (X:Cx):Cx:=X.wish λ_ _=>False
theorem Cx.Ok.wish {X:Cx}(ok:X.Ok)(E:QV):(X.wish E).Ok :=
 ⟨ok.mod,ok.kind,ok.glob,ok.blt,ok.above,ok.inj,ok.has,ok.cab,ok.hd,ok.frames,ok.stk,ok.exf,ok.bs,ok.bsz,ok.noex,ok.exfs,ok.funs,ok.frf⟩
theorem Cx.Ok.unwish {X:Cx}{E:QV}(ok:(X.wish E).Ok):X.Ok :=
 ⟨ok.mod,ok.kind,ok.glob,ok.blt,ok.above,ok.inj,ok.has,ok.cab,ok.hd,ok.frames,ok.stk,ok.exf,ok.bs,ok.bsz,ok.noex,ok.exfs,ok.funs,ok.frf⟩
section
variable {X:Cx}{ae:AO}{σ:St}{H:Hp}{s:Shared}{E:QV}
theorem Inv.wish (I:Inv X ae σ H s)(E:QV):Inv (X.wish E) ae σ H s:=⟨I.ok.wish E,I.os,I.bare,I.base,I.loc,I.cell,I.free,I.freeC,I.pin,I.hok,I.len⟩
theorem Inv.unwish (I:Inv (X.wish E) ae σ H s):Inv X ae σ H s:=⟨I.ok.unwish,I.os,I.bare,I.base,I.loc,I.cell,I.free,I.freeC,I.pin,I.hok,I.len⟩
theorem SP.unwish (h:SP (X.wish E) ae D f s'):SP X ae D f s':=by
 cases f with
 |next=>obtain⟨M,H',I,q⟩:=h;exact⟨M,H',I.unwish,q⟩
 |brk=>obtain⟨M,H',I,q⟩:=h;exact⟨M,H',I.unwish,q⟩
 |cont=>obtain⟨M,H',I,q⟩:=h;exact⟨M,H',I.unwish,q⟩
 |ret u=>obtain⟨v,M,H',I,r,q⟩:=h;exact⟨v,M,H',I.unwish,r,q⟩
theorem PE.nox (h:PE X.nox e t):PE X e t:=λae s σ H Q I hw=>
 wpAny_mono (h ae s σ H Q (I.wish _) hw) (λ_ _ ⟨v,H',M,r,q⟩=>⟨v,H',M.unwish,r,q⟩) λ_ _ z=>False.elim z
theorem PT.nox (h:PT X.nox e t):PT X e t:=λae s σ H Q I hw=>
 wpAny_mono (h ae s σ H Q (I.wish _) hw) (λ_ _ ⟨H',M,q⟩=>⟨H',M.unwish,q⟩) λ_ _ z=>False.elim z
theorem sP.nox {st:List Stmt}{t:TS}(h:sP X.nox st t):sP X st t:=λae s σ H D I hw=>
 wpAny_mono (h ae s σ H D (I.wish _) hw) (λ_ _ q=>q.unwish) λ_ _ z=>False.elim z
end
section
variable {X:Cx}{st:Stmt}{aH:List Stmt}{t u:TS}{e:Expr}{te:TE}{pos:Pos}
def Ka:TS:=λD σ H=>D.nx σ H
def Lf (t u:TS):TS:=λD σ H=>t { D with nx:=u D } σ H
theorem p5:sP X [] Ka:=λ_ _ σ H _ I h=>wpAny_execs_nil ⟨σ,H,I,h⟩
theorem cy (h1:PS X st t)(h2:sP X aH u):sP X (st::aH) (Lf t u):=by
 intro ae s σ H D I h;refine wpAny_execs_cons (cA (h1 ae s σ H { D with nx:=u D } I h) λf s1 q=>?_);cases f with
 |next=>
  obtain⟨M,H',O,q⟩:=q;exact h2 ae s1 M H' D O q
 |ret v=>exact q
 |brk=>exact q
 |cont=>exact q
theorem gR (h1:PS X st t):sP X [st] t:=by
 intro ae s σ H D I h;refine wpAny_execs_cons (cA (h1 ae s σ H D I h) λf s1 q=>?_);cases f with
 |next=>exact wpAny_execs_nil q
 |ret v=>exact q
 |brk=>exact q
 |cont=>exact q
def NY:TS:=λD σ H=>D.ct σ H
theorem xB:PS X (.Continue pos) NY:=λ_ _ σ H _ I h=>wpAny_Continue ⟨σ,H,I,h⟩
theorem Inv.quiet (I:Inv X ae σ H s):interactive X.env=false:=by simp[interactive,I.ok.kind]
def NZ (te:TE):TS:=λD σ H=>te σ H λ_ M=>D.nx σ M
theorem AG (he:PE X e te)(hs:swapsWith e none pos.line X.env=pure false:=by rfl):PS X (.Expr e pos) (NZ te):=by
 intro ae s σ H D I h;exact wpAny_Expr_any (cA (he ae s σ H _ I h) λv s1 ⟨x,M,I1,T,O⟩=>⟨σ,M,I1,O⟩) I.quiet hs
def Lg (te:TE):TS:=λD σ H=>te σ H D.rt
theorem vh (he:PE X e te):PS X (.Return (some e) pos) (Lg te):=by
 intro ae s σ H D I h;exact wpAny_Return_some (cA (he ae s σ H _ I h) λv s1 ⟨x,M,I1,O,T⟩=>⟨x,σ,M,I1,O,T⟩)
def Oa (c:TT)(t u:TS):TS:=λD σ H=>c σ H λb M=>if b=true then t D σ M else u D σ M
theorem xC {c:Expr}{a b:List Stmt}{M:TT}(hc:PT X c M)(ha:sP X a t)(hb:sP X b u):PS X (.If c a b pos) (Oa M t u):=by
 intro ae s σ H D I h;refine wpAny_If (cA (hc ae s σ H _ I h) λd s1 ⟨O,I1,T⟩=>?_);cases d with
 |true=>exact ha ae s1 σ O D I1 T
 |false=>exact hb ae s1 σ O D I1 T
end
abbrev TG:=V->St->Hp->(St->Hp->Prop)->Prop
abbrev Lh:=List V->St->Hp->(St->Hp->Prop)->Prop
def PG (X:Cx)(M:Expr)(t:TG):Prop :=
 ∀(ae:AO)(s:Shared)(σ:St)(H:Hp)(v:V)(u:Value)(Q:St->Hp->Prop),Inv X ae σ H s->aZ v u->t v σ H Q ->
  wq X (assign M X.env u) (λ_ s'=>∃O H',Inv X ae O H' s'/\Q O H') X.xe s
def QA (X:Cx)(O:QD)(t:Lh):Prop :=
 ∀(ae:AO)(s:Shared)(σ:St)(H:Hp)(vs:List V)(us:LU)(Q:St->Hp->Prop),Inv X ae σ H s->bj vs us->t vs σ H Q ->
  wq X (assignInOrder ((assignEach O X.env).map (·.2)) us) (λ_ s'=>∃M H',Inv X ae M H' s'/\Q M H') X.xe s
abbrev Li:=V->V->V->Hp->(Hp->Prop)->Prop
def Ob (X:Cx)(t:Li):Prop :=
 ∀(ae:AO)(s:Shared)(σ:St)(H:Hp)(o i v:V)(M iv u:Value)(Q:Hp->Prop),Inv X ae σ H s->aZ o M->aZ i iv->aZ v u->t o i v H Q ->
  wq X (setItem M iv u) (λ_ s'=>∃H',Inv X ae σ H' s'/\Q H') X.xe s
section
variable {X:Cx}{pos:Pos}
def gZ (i:Nat):TG:=λv σ H Q=>Q (σ.set i (some v)) H
theorem AH (M:X.N.Nodup)(hi:X.N[i]? = some x)(hx:GY X.env.scope x)(hf:X.fn x=true\/X.env.scope.names.lookup x=some .local:=by first|exact .inl rfl|exact .inr rfl|assumption):PG X (.Name x pos) (gZ i):=by
 intro ae s σ H v u Q I r h;exact wpAny_assign_Name (x0 I M hi hx r (λs' O=>⟨_,H,O,h⟩) hf)
def Oc:Lh:=λvs σ H Q=>vs=[]/\Q σ H
def Kb (t:TG)(u:Lh):Lh:=λvs σ H Q=>∃v r,vs=v::r/\t v σ H λM H'=>u r M H' Q
theorem p6:QA X [] Oc:=by
 intro ae s σ H vs us Q I r h;obtain⟨e,h⟩:=h;subst e;cases r
 exact assignInOrder_nil ⟨σ,H,I,h⟩
theorem gz {e:Expr}{es:QD}{t:TG}{u:Lh}(h1:PG X e t)(h2:QA X es u)
  (hs:(assignEach (e::es) X.env).map (·.2)=assign e X.env::(assignEach es X.env).map (·.2):=by rfl):QA X (e::es) (Kb t u):=by
 intro ae s σ H vs us Q I r h;obtain⟨v,b,O,h⟩:=h;subst O;cases r with
 |cons r T=>
  rw[hs];refine assignInOrder_cons (cA (h1 ae s σ H _ _ _ I r h) λ_ s1 ⟨M,U,I1,a⟩=>?_);exact h2 ae s1 M U _ _ Q I1 T a
def Lj (K:Frag)(n:Nat)(t:Lh):TG:=λv σ H Q=>∃a xs,v=.ref a/\ji K H a xs/\xs.length=n/\t xs σ H Q
theorem vi (hc:X.calm=true)(h:QA X es t)
  (hn:(assignEach es X.env).length=n:=by rfl) (M:(assignEach es X.env).findIdx? (·.1)=none:=by rfl):PG X (.Tuple es k pos) (Lj X.K n t):=by
 intro ae s σ H v u Q I r hw;obtain⟨a,xs,T,hq,hl,hw⟩:=hw;subst T;cases r
 obtain⟨its,O,U,hz⟩:=I.tuple hq;refine assign_Tuple_tuple (I.ok.hd hc) U (by simp[hn,<-hl,O.length]) M λh' hx=>?_;have I1:Inv X ae σ H { s with heap:=h' }:=I.kept (t':=s.toks) λb o e=>hx b o (vS (vX e)) e;exact h ae _ σ H xs _ Q I1 (by simpa using O) hw
def R7 (to ti:TE)(t:Li):TG:=λv σ H Q=>to σ H λo M=>ti σ M λi H2=>t o i v H2 λO=>Q σ O
theorem Lk {o i:Expr}{to ti:TE}{t:Li}(O:PE X o to)(hi:PE X i ti)(hs:Ob X t)
  (ha:∀v,assign (.Subscript o i pos) X.env v=(do
   let M <-holding [v] (eval o X.env)
   let iv <-holding [v,M] (eval i X.env)
   standAt pos
   holding [v,M,iv] (setItem M iv v)
   release [v,M,iv] []):=by intro _;rfl):PG X (.Subscript o i pos) (R7 to ti t):=by
 intro ae s σ H v u Q I r h;rw[ha];refine wX (wpAny_holding (cA (O ae s σ H _ I h) λM s1 ⟨x,T,I1,U,a⟩=>?_));refine wX (wpAny_holding (cA (hi ae s1 σ T _ I1 a) λiv s2 ⟨y,H2,I2,b,c⟩=>?_));refine wX (wpAny_standAt (wX (wpAny_holding (cA (hs ae s2 σ H2 x y v M iv u _ I2 U b r c) λ_ g ⟨d,e,f⟩=>?_))));exact wpAny_release ⟨σ,d,e,f⟩
def xD (M:TE)(g:TG):TS:=λD σ H=>M σ H λx O=>g x σ O D.nx
theorem Ll {tg e:Expr}{M:TE}{g:TG}(he:PE X e M)(O:PG X tg g)(hs:swapsWithSole [tg] e pos.line X.env=pure false:=by rfl)(hw:swappedStores [tg] e X.env=pure none:=by rfl)
  (h1:(assignEach [tg] X.env).map (·.2)=[assign tg X.env]:=by rfl):PS X (.Assign [tg] e pos) (xD M g):=by
 intro ae s σ H D I h;refine wpAny_Assign_stores (cA (he ae s σ H _ I h) λv s1 ⟨x,T,I1,U,a⟩=>?_) hs hw;rw[h1];exact cA (O ae s1 σ T x v _ I1 U a) λ_ s2 q=>q
theorem kh {i:Nat}{x:Str}{e:Expr}{O:TE}{M:Pos}(T:X.N.Nodup)(hi:X.N[i]? = some x)(hx:GY X.env.scope x)(he:PE X e O)(hs:swapsWith e (some (.Name x M)) pos.line X.env=pure false:=by rfl)(hf:X.fn x=true\/X.env.scope.names.lookup x=some .local:=by first|exact .inl rfl|exact .inr rfl|assumption):
  PS X (.Assign [.Name x M] e pos) (xD O (gZ i)):=by
 intro ae s σ H D I h;refine wpAny_Assign_Name (cA (he ae s σ H _ I h) λv s1 ⟨y,U,I1,a,b⟩=>?_) hs;exact x0 I1 T hi hx a (λs2 I2=>⟨_,U,I2,b⟩) hf
end
structure It where
 go:Nat->Hp->Prop
 yld:Nat->Hp->V->Hp->Prop
 stop:Nat->Hp->Prop
def no (X:Cx)(ae:AO)(H:Hp)(b:Addr):Prop :=
 H b=none/\b≠X.env.locals/\b∉X.fs/\(b∈X.ex\/X.s₀.heap.objs.size<=b)/\(∀x c,X.env.cells.lookup x=some c->c≠b)/\∀p∈X.pn++ae,p.1≠b
theorem Inv.fpOk (I:Inv X ae σ H s)(hb:s.heap.objs.size<=b)(hn:H' b=none):no X ae H' b:=by
 refine⟨hn,ne_of_gt (vQ I.lt hb),I.nofs hb,.inr (vR I.sz hb),λx c e z=>?_,λp hp z=>?_⟩
 ·obtain⟨v,q⟩:=I.cell x c e;exact absurd (vQ q.lt (by rw[z];exact hb)) (Nat.lt_irrefl _)
 ·exact absurd (vQ (vX (I.pin p hp).1) (by rw[z];exact hb)) (Nat.lt_irrefl _)
structure Turn (P:Program)(w:World)(K:Frag)(tg:Expr)(J:It)(fp:List Addr)(it:Addr)(tn:Nat->Heap->Prop):Prop where
 mem:it∈fp
 obj:∀i h,tn i h->∀b∈fp,∃o,h.get? b=some o/\∀v,o.data≠.cell v
 keep:∀i h h',tn i h->(∀b∈fp,∀o,h.get? b=some o->h'.get? b=some o)->tn i h'
 item:∀(X:Cx),X.prog=P->X.w=w->X.K=K->X.calm=true->∀(i:Nat)(ae:List (Addr×Obj))(s:Shared)(σ:St)(H:Hp)(E:Value->Shared->Prop),Inv X ae σ H s->(∀b∈fp,no X ae H b)->tn i s.heap->J.go i H ->
  wpAny (model P w) X.A (pyNext (.ref it)) (λr s1=>∃u,r=some u /\
   wpAny (model P w) X.A (letOwnedTupleGo tg (.ref it) u) (λ_ s2=>∃x H',Inv X ae σ H' s2/\aZ x u/\J.yld i H x H'/\tn (i+1) s2.heap/\∀b∈fp,H' b=none) E s1) E s
 done:∀(X:Cx),X.prog=P->X.w=w->X.K=K->X.calm=true->∀(i:Nat)(ae:List (Addr×Obj))(s:Shared)(σ:St)(H:Hp)(E:Value->Shared->Prop),Inv X ae σ H s->(∀b∈fp,no X ae H b)->tn i s.heap->J.stop i H ->
  wpAny (model P w) X.A (pyNext (.ref it)) (λr s1=>r=none/\Inv X ae σ H s1) E s
 self:∀(A:Around)(i:Nat)(s:Shared)(Q:Value->Shared->Prop)(E:Value->Shared->Prop),tn i s.heap->Q (.ref it) s->wpAny (model P w) A (pyIter (.ref it)) Q E s
abbrev TI:=St->Hp->(It->Hp->Prop)->Prop
def Ud (X:Cx)(ae:AO)(σ:St)(tg:Expr)(R:It->Hp->Prop)(M:Value)(s2:Shared):Prop :=
 ∃(it:Addr)(fp:List Addr)(tn:Nat->Heap->Prop)(J:It)(H':Hp),M=.ref it/\Inv X ae σ H' s2/\Turn X.prog X.w X.K tg J fp it tn/\tn 0 s2.heap/\(∀b∈fp,no X ae H' b)/\R J H'
def PI (X:Cx)(tg M:Expr)(O:TI):Prop :=
 ∀(ae:AO)(s:Shared)(σ:St)(H:Hp)(R:It->Hp->Prop),Inv X ae σ H s->O σ H R ->
  wq X (eval M X.env) (λv s1=>wq X (pyIter v) (Ud X ae σ tg R) X.xe s1) X.xe s
theorem t7 (T:s.heap.get? it=some o)(hc:o.cls=.type n)(hd:o.data=.fields vs)
    (hn:["enumerate","zip","dict_itemiterator","dict_reverseitemiterator","odict_iterator","itertools.zip_longest","itertools.pairwise"].contains n=false) (O:Q () s):wpAny M A (letOwnedTupleGo tg (.ref it) u) Q E s:=by
  unfold letOwnedTupleGo;cases tg<;>first
    |exact wY O
    | (cases u<;>first
        |exact wY O
        | (refine wX (wpAny_load T ?_)
           rw[hc,hd]
           show wpAny M A (if(["enumerate","zip","dict_itemiterator","dict_reverseitemiterator","odict_iterator","itertools.zip_longest","itertools.pairwise"].contains n && vs[0]? == some (rawInt _))=true then _ else _) Q E s
           rw[if_neg (by intro h;rw[hn,Bool.false_and]at h;cases h)]
           exact wY O))
noncomputable def Nm (K:Frag)(a:Addr):It :=
 ⟨λi H=>∃xs x,fx K H a xs/\xs[i]? = some x,λi H x H'=>H'=H/\∀xs,fx K H a xs->xs[i]? = some x,λi H=>∃xs,fx K H a xs/\xs.length<=i⟩
noncomputable def Ue (K:Frag)(a:Addr):It :=
 ⟨λi H=>∃xs x,ji K H a xs/\xs[i]? = some x,λi H x H'=>H'=H/\∀xs,ji K H a xs->xs[i]? = some x,λi H=>∃xs,ji K H a xs/\xs.length<=i⟩
noncomputable def QB (lo:Int)(n:Nat):It:=⟨λi _=>i<n,λi H x H'=>H'=H/\x=.int (lo+i),λi _=>n<=i⟩
theorem C3 {P:Program}{w:World}{K:Frag}{tg:Expr}(a it:Addr):Turn P w K tg (Nm K a) [it] it (λi h=>h.IsListIter it a i) where
 mem:=by simp
 obj:=λi h st b hb=>by
  have e:b=it:=by simpa using hb
  subst e;obtain⟨o,e,c,d⟩:=st;exact⟨o,e,λv z=>by rw[d]at z;cases z⟩
 keep:=λi h h' st k=>st.at λo e=>k it (by simp) o e
 item:=by
  intro X O hw T hc i ae s σ H E I hf st U;subst O hw T;obtain⟨xs,x,hq,hx⟩:=U;obtain⟨its,f,p,hz⟩:=I.list hq;obtain⟨u,hu,ru⟩:=f.get hx;obtain⟨f0,f1,f2,f3,f4,f5⟩:=hf it (by simp);refine wpAny_pyNext_list_item st p.isList (x:=u) (by simpa using hu) λh' M g=>?_;have I1:Inv X ae σ H { s with heap:=h' }:=I.turned (t':=s.toks) (λb o hb e=>(g.2 b hb).trans e) f0 f1 f3 f4 f5;obtain⟨o,e,c,d⟩:=id M;exact⟨u,rfl,t7 (s:={ s with heap:=h' }) e c d (by decide) ⟨x,H,I1,ru,⟨rfl,λys hy=>by rw[I.list_inj hy hq];exact hx⟩,M,λb hb=>(hf b hb).1⟩⟩
 done:=by
  intro X O hw T hc i ae s σ H E I hf st U;subst O hw T;obtain⟨xs,hq,hx⟩:=U;obtain⟨its,f,p,hz⟩:=I.list hq;obtain⟨f0,f1,f2,f3,f4,f5⟩:=hf it (by simp);have hl:=f.length;exact wpAny_pyNext_list_end (I.ok.hd hc) st p.isList (by simp;lia) λh' j=>⟨rfl,I.turned (t':=s.toks) (λb o hb e=>j b o hb e) f0 f1 f3 f4 f5⟩
 self:=λ_ _ _ _ _ st h=>wpAny_pyIter_listiter st h
theorem zD {P:Program}{w:World}{K:Frag}{tg:Expr}(a it:Addr):Turn P w K tg (Ue K a) [it] it (λi h=>h.IsTupleIter it a i) where
 mem:=by simp
 obj:=λi h st b hb=>by
  have e:b=it:=by simpa using hb
  subst e;obtain⟨o,e,c,d⟩:=st;exact⟨o,e,λv z=>by rw[d]at z;cases z⟩
 keep:=λi h h' st k=>st.at λo e=>k it (by simp) o e
 item:=by
  intro X O hw T hc i ae s σ H E I hf st U;subst O hw T;obtain⟨xs,x,hq,hx⟩:=U;obtain⟨its,f,p,hz⟩:=I.tuple hq;obtain⟨u,hu,ru⟩:=f.get hx;obtain⟨f0,f1,f2,f3,f4,f5⟩:=hf it (by simp);refine wpAny_pyNext_tuple_item st (show s.heap.IsTuple a its.toArray from p) (x:=u) (by simpa using hu) λh' M g=>?_;have I1:Inv X ae σ H { s with heap:=h' }:=I.turned (t':=s.toks) (λb o hb e=>(g.2 b hb).trans e) f0 f1 f3 f4 f5;obtain⟨o,e,c,d⟩:=id M;exact⟨u,rfl,t7 (s:={ s with heap:=h' }) e c d (by decide) ⟨x,H,I1,ru,⟨rfl,λys hy=>by rw[I.tuple_inj hy hq];exact hx⟩,M,λb hb=>(hf b hb).1⟩⟩
 done:=by
  intro X O hw T hc i ae s σ H E I hf st U;subst O hw T;obtain⟨xs,hq,hx⟩:=U;obtain⟨its,f,p,hz⟩:=I.tuple hq;obtain⟨f0,f1,f2,f3,f4,f5⟩:=hf it (by simp);have hl:=f.length;exact wpAny_pyNext_tuple_end (I.ok.hd hc) st (show s.heap.IsTuple a its.toArray from p) (by simp;lia) λh' j=>⟨rfl,I.turned (t':=s.toks) (λb o hb e=>j b o hb e) f0 f1 f3 f4 f5⟩
 self:=λ_ _ _ _ _ st h=>wpAny_pyIter_tupleiter st h
theorem zE {P:Program}{w:World}{K:Frag}{tg:Expr}(it:Addr)(lo:Int)(n:Nat):Turn P w K tg (QB lo n) [it] it (λi h=>IsRangeIter h it (lo+(i:Nat)*1) ((n:Int) - (i:Nat)) 1) where
 mem:=by simp
 obj:=λi h st b hb=>by
  have e:b=it:=by simpa using hb
  subst e;exact⟨_,st,λv z=>by
   have a:Data.fields _=Data.cell v:=z;cases a⟩
 keep:=λi h h' st k=>k it (by simp) _ st
 item:=by
  intro X O hw T hc i ae s σ H E I hf st U;subst O hw T;obtain⟨f0,f1,f2,f3,f4,f5⟩:=hf it (by simp);have W:=Walks.range (prog:=X.prog) (w:=X.w) (I.ok.hd hc) it lo 1 n;refine W.item i s _ _ U st λv h' tk hv M c=>?_;obtain⟨t,rfl⟩:=hv;have I1:Inv X ae σ H { s with heap:=h',toks:=tk }:=I.turned (λb o hb e=>c b o (by simpa using hb) e) f0 f1 f3 f4 f5;refine⟨_,rfl,t7 (s:={ s with heap:=h',toks:=tk }) (n:="range_iterator") M rfl rfl (by decide) ⟨.int (lo+i),H,I1,⟨t,?_⟩,⟨rfl,rfl⟩,M,λb hb=>(hf b hb).1⟩⟩;rw[Int.mul_one]
 done:=by
  intro X O hw T hc i ae s σ H E I hf st U;subst O hw T;obtain⟨f0,f1,f2,f3,f4,f5⟩:=hf it (by simp);exact wpAny_pyNext_range_end (I.ok.hd hc) st (by have:n<=i:=U;lia) λh' d=>⟨rfl,I.turned (t':=s.toks) (λb o hb e=>d b o hb e) f0 f1 f3 f4 f5⟩
 self:=λ_ _ _ _ _ st h=>wpAny_pyIter_rangeiter st h
section
variable {X:Cx}{tg:Expr}
def Kc (K:Frag)(tl:TE):TI:=λσ H R=>tl σ H λx M=>∃a,x=.ref a/\(∃xs,fx K M a xs)/\R (Nm K a) M
def R8 (K:Frag)(tl:TE):TI:=λσ H R=>tl σ H λx M=>∃a,x=.ref a/\(∃xs,ji K M a xs)/\R (Ue K a) M
theorem kT {l:Expr}{tl:TE}(hl:PE X l tl):PI X tg l (Kc X.K tl):=by
 intro ae s σ H R I h;refine cA (hl ae s σ H _ I h) λv s1 ⟨x,M,I1,O,T⟩=>?_;obtain⟨a,e,⟨xs,hq⟩,q⟩:=T;subst e;cases O
 obtain⟨its,U,p,hz⟩:=I1.list hq;refine wpAny_pyIter_list p.isList ?_;refine⟨s1.heap.objs.size,[s1.heap.objs.size],_,_,M,rfl,I1.kept (t':=s1.toks) λb o e=>vZ _ e,C3 a _,⟨_,vY _ rfl,rfl,rfl⟩,λb hb=>?_,q⟩;have e:b=s1.heap.objs.size:=by simpa using hb
 subst e;exact I1.fpOk (vT _) (I1.hok.fresh (vT _))
theorem Lm {l:Expr}{tl:TE}(hl:PE X l tl):PI X tg l (R8 X.K tl):=by
 intro ae s σ H R I h;refine cA (hl ae s σ H _ I h) λv s1 ⟨x,M,I1,O,T⟩=>?_;obtain⟨a,e,⟨xs,hq⟩,q⟩:=T;subst e;cases O
 obtain⟨its,U,p,hz⟩:=I1.tuple hq;refine wpAny_pyIter_tuple (show s1.heap.IsTuple a its.toArray from p) ?_;refine⟨s1.heap.objs.size,[s1.heap.objs.size],_,_,M,rfl,I1.kept (t':=s1.toks) λb o e=>vZ _ e,zD a _,⟨_,vY _ rfl,rfl,rfl⟩,λb hb=>?_,q⟩;have e:b=s1.heap.objs.size:=by simpa using hb
 subst e;exact I1.fpOk (vT _) (I1.hok.fresh (vT _))
theorem Ed {ae:AO}{σ:St}{H:Hp}{s:Shared}{R:It->Hp->Prop}{E:QV}{lo hi:Int}{t u v:Tok}{tk:Nat}(I:Inv X ae σ H s)(h1 : -(2 ^ 62)<=lo)(h2:lo<2 ^ 62)(h3 : -(2 ^ 62)<=hi)(h4:hi<2 ^ 62)
  (q:R (QB lo (hi - lo).toNat) H):wq X (pyIter (.ref s.heap.objs.size)) (Ud X ae σ tg R) E { s with heap:=s.heap.push { cls:=.type "range",data:=.fields #[.int lo t,.int hi u,.int 1 v] },toks:=tk }:=by
 refine wpAny_pyIter_range (IsRange.new ..) (small_one h1 h2 h3 h4) ?_;have I1:Inv X ae σ H { s with heap:=s.heap.push { cls:=.type "range",data:=.fields #[.int lo t,.int hi u,.int 1 v] },toks:=tk }:=I.kept λb o e=>vZ _ e;refine⟨(s.heap.push { cls:=.type "range",data:=.fields #[.int lo t,.int hi u,.int 1 v] }).objs.size,[(s.heap.push { cls:=.type "range",data:=.fields #[.int lo t,.int hi u,.int 1 v] }).objs.size],_,_,H,rfl,
  I1.kept (t':=tk) λb o e=>vZ _ e,zE _ lo (hi - lo).toNat,?_,λb hb=>?_,q⟩
 ·have M:lo+((0:Nat):Int)*1=lo:=by simp
  have e2:(((hi - lo).toNat:Nat):Int) - ((0:Nat):Int)=Builtin.Range.rangeSize lo hi 1:=by rw[rangeSize_one];split<;>lia
  show IsRangeIter _ _ (lo+((0:Nat):Int)*1) ((((hi - lo).toNat:Nat):Int) - ((0:Nat):Int)) 1;rw[M,e2];exact vY _ rfl
 ·have e:b=(s.heap.push { cls:=.type "range",data:=.fields #[.int lo t,.int hi u,.int 1 v] }).objs.size:=by simpa using hb
  subst e;exact I1.fpOk (vT _) (I1.hok.fresh (vT _))
def Od (M:TA):TI:=λσ H R=>M σ H λvs O=>∃j:Int,vs=[.int j]/\-(2 ^ 62)<=j/\j<2 ^ 62/\R (QB 0 j.toNat) O
theorem C4 {a:Expr}{T:TA}{p M:Pos}(U:Gl X "range")(hm:X.mg "range" = none)(ha:PA X [a] T)(hs:starEach [a] X.env=[(false,eval a X.env)]:=by rfl):PI X tg (.Call (.Name "range" p) [a] [] M) (Od T):=by
 intro ae s σ H R I h;refine Call_ (lK I U hm boot_range (PyProof.Rows.callWith_type1 (cA (ha M ae s σ H _ I h) λus s1 ⟨vs,f,I1,b,O⟩=>?_) hs rfl));obtain⟨j,e,O,c,q⟩:=O;subst e;cases b with
 |cons r d=>
  cases d
  obtain⟨t,rfl⟩:=r;exact call_range_1 (Ed I1 (by lia) (by lia) O c (by simpa using q))
def Ln (U:TI)(g:TG)(tb:TS):TS:=λD σ H=>U σ H λJ a=>∃W:Nat->Nat->St->Hp->Prop,(∃m,W 0 m σ a)/\∀i m σ H,W i m σ H ->
 (J.stop i H/\D.nx σ H)\/(J.go i H/\∃N:St->Hp->Prop,(∀M H',N M H'->∃T,T<m/\W (i+1) T M H')/\∀x H',J.yld i H x H'->g x σ H' λO H2=>tb { D with nx:=N,ct:=N,bk:=D.nx } O H2)
def np (fp:List Addr)(h:Heap):AO:=fp.filterMap λb=>(h.get? b).map λo=>(b,o)
theorem jB {fp:List Addr}{h:Heap}{b:Addr}{o:Obj}(hb:b∈fp)(e:h.get? b=some o):(b,o)∈np fp h:=mem_filterMap.mpr ⟨b,hb,by rw[e];rfl⟩
theorem C5 (hp:p∈np fp h):p.1∈fp/\h.get? p.1=some p.2:=by
 obtain⟨b,hb,e⟩:=mem_filterMap.mp hp;cases q:h.get? b with
 |none=>rw[q]at e;cases e
 |some o=>
  rw[q]at e;have M:(b,o)=p:=vK e;subst M;exact⟨hb,q⟩
theorem Inv.pinned (I:Inv X ae σ H s)(hf:∀b∈fp,no X ae H b)(O:∀b∈fp,∃o,s.heap.get? b=some o/\∀v,o.data≠.cell v):Inv X (ae++np fp s.heap) σ H s :=
 I.pins_of λp hp=>(mem_append.mp hp).elim (λz=>I.pin p (mY _ z)) λz=>by
  obtain⟨hb,e⟩:=C5 z;obtain⟨f0,f1,f2,_⟩:=hf p.1 hb;obtain⟨o,M,d⟩:=O p.1 hb;rw[e]at M;cases M;exact⟨e,f0,f1,f2,d⟩
theorem Inv.unpinned (I:Inv X (ae++pl) σ H s):Inv X ae σ H s:=I.pins_of λp hp=>I.pin p (mY _ (mem_append_left _ hp))
theorem pQ {O:Expr}{l:List Stmt}{C:TI}{g:TG}{tb:TS}{t:Pos}(hp:PassesOwn (model X.prog X.w) X.A X.env X.xe)(hc:X.calm=true)(hi:PI X tg O C)(Q:PG X tg g)(hb:sP X l tb)
  (hs:∀x,foldedSetIterable O X.env x=pure x:=by intro _;rfl):PS X (.For tg O l [] t) (Ln C g tb):=by
 intro ae s σ H D I h;refine wpAny_For (cA (hi ae s σ H _ I h) λv s1 h1=>cA h1 λQQ s2 h2=>?_) hs;obtain⟨it,fp,tn,J,H2,e,I2,T,R,f2,W,⟨S,V⟩,Y⟩:=h2;subst e
 -- what stays true of the iterator's objects through the loop
 have U:∀ {H':Hp},(∀b∈fp,H' b=none)->∀b∈fp,no X ae H' b:=λhn b hb=>⟨hn b hb,(f2 b hb).2⟩;refine codeAny_forLoop_any (λn s'=>∃i a H',Inv X ae a H' s'/\tn i s'.heap/\(∀b∈fp,H' b=none)/\W i n a H') ?_ S ⟨0,σ,H2,I2,R,λb hb=>(f2 b hb).1,V⟩;rintro n E ⟨i,c,q,F,G,K,Z⟩;rcases Y i n c q Z with⟨stop,qn⟩|⟨go,N,hN,step⟩
 ·refine wpAny_passesOwn hp (cA (T.done X rfl rfl rfl hc i ae E c q X.xe F (U K) G stop) λr s4 ⟨hr,I4⟩=>?_);subst hr;exact wpAny_execs_nil ⟨c,q,I4,qn⟩
 ·refine wpAny_passesOwn hp (cA (T.item X rfl rfl rfl hc i ae E c q X.xe F (U K) G go) λr s4 ⟨u,hr,h4⟩=>?_);subst hr;refine wpAny_passesOwn hp (cA h4 λ_ L ⟨x,P,I5,r5,y5,y,S5⟩=>?_);have Xa:=I5.pinned (U S5) (T.obj _ _ y);refine wpAny_passesOwn hp (cA (Q _ L c P x u _ Xa r5 (step x P y5)) λ_ s6 ⟨z,H6,I6,q6⟩=>?_);refine wpAny_passesOwn hp (cA (hb _ s6 z H6 _ I6 q6) λf B p=>?_);have again:∀ {M:St}{j:Hp},Inv X (ae++np fp L.heap) M j B->N M j->∃m,m<n/\∃i a H',Inv X ae a H' B/\tn i B.heap/\(∀b∈fp,H' b=none)/\W i m a H':=λ{M j} k n7=>by
   obtain⟨m',hm,w7⟩:=hN M j n7;refine⟨m',hm,i+1,M,j,k.unpinned,T.keep _ _ _ y λb hb o e=>(k.pin (b,o) (mY _ (mY _ (jB hb e)))).1,λb hb=>?_,w7⟩;obtain⟨o,e,d⟩:=T.obj _ _ y b hb;exact(k.pin (b,o) (mY _ (mY _ (jB hb e)))).2.1
  cases f with
  |next=>obtain⟨M,j,k,n7⟩:=p;exact again k n7
  |cont=>obtain⟨M,j,k,n7⟩:=p;exact again k n7
  |brk=>obtain⟨M,j,k,p⟩:=p;exact⟨M,j,k.unpinned,p⟩
  |ret v=>obtain⟨x7,M,j,k,r7,p⟩:=p;exact⟨x7,M,j,k.unpinned,r7,p⟩
end
abbrev R2:=V->V->Hp->VK->Prop
def dN (X:Cx)(f:Value->Value->Sem Value)(r:R2):Prop :=
 ∀(ae:AO)(s:Shared)(σ:St)(H:Hp)(x y:V)(v u:Value)(Q:VK),Inv X ae σ H s->aZ x v->aZ y u->r x y H Q ->
  wq X (f v u) (EP X ae σ Q) X.xe s
def Oe (X:Cx)(f:Value->Sem Value)(r:V->Hp->VK->Prop):Prop :=
 ∀(ae:AO)(s:Shared)(σ:St)(H:Hp)(x:V)(v:Value)(Q:VK),Inv X ae σ H s->aZ x v->r x H Q ->
  wq X (f v) (EP X ae σ Q) X.xe s
def ci (X:Cx)(f:Value)(r:List V->Hp->VK->Prop):Prop :=
 ∀(ae:AO)(s:Shared)(σ:St)(H:Hp)(xs:List V)(us:LU)(Q:VK),Inv X ae σ H s->bj xs us->r xs H Q ->
  wq X (call f us) (EP X ae σ Q) X.xe s
def QC (r:R2)(M tb:TE):TE:=λσ H Q=>M σ H λx O=>tb σ O λy H2=>r x y H2 Q
def Wc (r:V->Hp->VK->Prop)(M:TE):TE:=λσ H Q=>M σ H λx O=>r x O Q
def rI (C:Int->Int->Prop)(g:Int->Int->V):R2:=λx y H Q=>∃i j,x=.int i/\y=.int j/\C i j/\Q (g i j) H
def GZ (g:Int->Int->V):R2:=λx y H Q=>∃i j,x=.int i/\y=.int j/\Q (g i j) H
def rU (g:Int->V):V->Hp->VK->Prop:=λx H Q=>∃i,x=.int i/\Q (g i) H
section
variable {X:Cx}{a b c:Expr}{ta tb tc:TE}{pos:Pos}
theorem Lo (ha:PE X a ta)(hb:PE X b tb){ae:AO}{s:Shared}{σ:St}{H:Hp}{R:V->V->Hp->Prop}(I:Inv X ae σ H s)
  (h:ta σ H λx T=>tb σ T λy H2=>R x y H2) {Q:QV}{f:Value->Value->Sem Value}
  (hf:∀v u s2 x y H2,Inv X ae σ H2 s2->aZ x v->aZ y u->R x y H2->wq X (f v u) Q X.xe s2):
  wq X (eval a X.env) (λv M=>wq X (eval b X.env) (λu O=>wq X (f v u) Q X.xe O) X.xe M) X.xe s:=by
 refine cA (ha ae s σ H _ I h) λv s1 ⟨x,T,I1,U,d⟩=>?_;refine cA (hb ae s1 σ T _ I1 d) λu s2 ⟨y,H2,I2,e,g⟩=>?_;exact hf v u s2 x y H2 I2 U e g
theorem Ee {op:Operator}{r:R2}(M:dN X (binaryOp op) r)(ha:PE X a ta)(hb:PE X b tb):PE X (.BinOp a op b pos) (QC r ta tb):=by
 intro ae s σ H Q I h;exact wpAny_BinOp (Lo ha hb I h λv u s2 x y H2 I2 O T q=>M ae s2 σ H2 x y v u Q I2 O T q)
theorem Of {op:UnaryOp}{r:V->Hp->VK->Prop}(M:Oe X (unaryOp op) r)(ha:PE X a ta):PE X (.UnaryOp op a pos) (Wc r ta):=by
 intro ae s σ H Q I h;exact UnaryOp_ (cA (ha ae s σ H _ I h) λv s1 ⟨x,O,I1,T,U⟩=>M ae s1 σ O x v Q I1 T U)
theorem R9 {f:Value->Value->Sem Value}{C:Int->Int->Prop}{g:Int->Int->Int}
  (rule:∀(i j:Int)(t u:Tok)(s:Shared)(Q:QV)(E:QV),C i j->Q (.int (g i j) s.toks) { s with toks:=s.toks+1 }->wq X (f (.int i t) (.int j u)) Q E s):
  dN X f (rI C λi j=>.int (g i j)):=by
 intro ae s σ H x y v u Q I M O h;obtain⟨i,j,rfl,rfl,hc,q⟩:=h;obtain⟨t,rfl⟩:=M;obtain⟨t',rfl⟩:=O;exact rule i j t t' s _ _ hc ⟨.int (g i j),H,I.tok _,⟨_,rfl⟩,q⟩
theorem Lp {f:Value->Value->Sem Value}{g:Int->Int->Int}
  (rule:∀(i j:Int)(t u:Tok)(s:Shared)(Q:QV)(E:QV),Q (.int (g i j) s.toks) { s with toks:=s.toks+1 }->wq X (f (.int i t) (.int j u)) Q E s):
  dN X f (GZ λi j=>.int (g i j)):=by
 intro ae s σ H x y v u Q I M O h;obtain⟨i,j,rfl,rfl,q⟩:=h;obtain⟨t,rfl⟩:=M;obtain⟨t',rfl⟩:=O;exact rule i j t t' s _ _ ⟨.int (g i j),H,I.tok _,⟨_,rfl⟩,q⟩
theorem Hq {f:Value->Value->Sem Value}{g:Int->Int->Bool}
  (rule:∀(i j:Int)(t u:Tok)(s:Shared)(Q:QV)(E:QV),Q (.bool (g i j)) s->wq X (f (.int i t) (.int j u)) Q E s):
  dN X f (GZ λi j=>.bl (g i j)):=by
 intro ae s σ H x y v u Q I M O h;obtain⟨i,j,rfl,rfl,q⟩:=h;obtain⟨t,rfl⟩:=M;obtain⟨t',rfl⟩:=O;exact rule i j t t' s _ _ ⟨.bl (g i j),H,I,rfl,q⟩
def Og (i j:Int):Prop:=0<j/\j<1073741824
def Hr (i j:Int):Prop:=(-(2 ^ 64)<i/\i<2 ^ 64)\/(-(2 ^ 64)<j/\j<2 ^ 64)
theorem Hr.ok (h:Hr i j):IntMulOk i j:=by
 rcases h with⟨h1,h2⟩|⟨h1,h2⟩
 ·exact .of_left (intBits_le_64 h1 h2)
 ·exact .of_right (intBits_le_64 h1 h2)
theorem Lq:dN X (binaryOp .Add) (GZ λi j=>.int (i+j)):=Lp λ_ _ _ _ _ _ _ q=>add_int q
theorem Lr:dN X (binaryOp .Sub) (GZ λi j=>.int (i - j)):=Lp λ_ _ _ _ _ _ _ q=>sub_int q
theorem Ls:dN X (binaryOp .Mult) (rI Hr λi j=>.int (i*j)):=R9 λ_ _ _ _ _ _ _ hc q=>mul_int q hc.ok
theorem Hs:dN X (binaryOp .FloorDiv) (rI Og λi j=>.int (i / j)):=R9 λi j _ _ _ _ _ hc q=>by
 have h1:(0:Int)<j:=hc.1;have h2:j<1073741824:=hc.2;exact floordiv_int (by lia) (by rw[Int.fdiv_eq_ediv_of_nonneg i (by lia)];exact q) (.inl (PyProof.noPylong_small (by lia)))
theorem Lu:dN X (binaryOp .Mod) (rI (λ_ j=>0<j) λi j=>.int (i % j)):=R9 λi j _ _ _ _ _ hc q=>by
 have h1:(0:Int)<j:=hc;exact mod_int' (by lia) (by rw[Int.fmod_eq_emod_of_nonneg i (by lia)];exact q)
theorem Lv:dN X (binaryOp .BitAnd) (GZ λi j=>.int (Builtin.bitAnd i j)):=Lp λ_ _ _ _ _ _ _ q=>and_int q
theorem Wd {f:Value->Sem Value}{g:Int->Int}
  (rule:∀(i:Int)(t:Tok)(s:Shared)(Q:QV)(E:QV),Q (.int (g i) s.toks) { s with toks:=s.toks+1 }->wq X (f (.int i t)) Q E s):
  Oe X f (rU λi=>.int (g i)):=by
 intro ae s σ H x v Q I M h;obtain⟨i,rfl,q⟩:=h;obtain⟨t,rfl⟩:=M;exact rule i t s _ _ ⟨.int (g i),H,I.tok _,⟨_,rfl⟩,q⟩
theorem Lx:Oe X (unaryOp .USub) (rU λi=>.int (-i)):=Wd λ_ _ _ _ _ q=>neg_int q
theorem C6:dN X (binaryOp .Add) (λx y H Q=>∃i k,x=.int i/\y=.bl k/\Q (.int (i+b2i k)) H):=by
 intro ae s σ H x y v u Q I M O h;obtain⟨i,k,rfl,rfl,q⟩:=h;obtain⟨t,rfl⟩:=M;cases O
 exact add_int_bool ⟨.int (i+b2i k),H,I.tok _,⟨_,rfl⟩,q⟩
end
section
variable {X:Cx}{a b c:Expr}{ta tb tc:TE}{pos:Pos}
theorem Oh:dN X (compareOp .Lt) (GZ λi j=>.bl (decide (i<j))):=Hq λ_ _ _ _ _ _ _ q=>lt_int q
theorem Oi:dN X (compareOp .LtE) (GZ λi j=>.bl (decide (i<=j))):=Hq λ_ _ _ _ _ _ _ q=>le_int q
theorem Oj:dN X (compareOp .Gt) (GZ λi j=>.bl (decide (j<i))):=Hq λ_ _ _ _ _ _ _ q=>gt_int q
theorem Ol:dN X (compareOp .GtE) (GZ λi j=>.bl (decide (j<=i))):=Hq λ_ _ _ _ _ _ _ q=>ge_int q
theorem dN.or (h:dN X f r)(h':dN X f T):dN X f (λx y H Q=>r x y H Q\/T x y H Q):=by
 intro ae s σ H x y v u Q I M O q;rcases q with q|q
 ·exact h ae s σ H x y v u Q I M O q
 ·exact h' ae s σ H x y v u Q I M O q
theorem Ht (M:dN X (compareOp op) r)(ha:PE X a ta)(hb:PE X b tb)(hm:behindInMarks op b=false):PE X (.Compare a [op] [b] pos) (QC r ta tb):=by
 intro ae s σ H Q I h;exact wpAny_Compare1 (Lo ha hb I h λv u s2 x y H2 I2 O T q=>M ae s2 σ H2 x y v u Q I2 O T q) hm
def Om (t:TE):TT:=λσ H Q=>t σ H λx H'=>∃k,x=.bl k/\Q k H'
theorem Hu {op:CmpOp}{r:R2}(M:dN X (compareOp op) r)(ha:PE X a ta)(hb:PE X b tb)(hm:behindInMarks op b=false):PT X (.Compare a [op] [b] pos) (Om (QC r ta tb)):=by
 intro ae s σ H Q I h;refine wpAny_isTrue_Compare1 (cA (ha ae s σ H _ I h) λv s1 ⟨x,O,I1,T,U⟩=>cA (hb ae s1 σ O _ I1 U) λu s2 ⟨y,H2,I2,d,f⟩=>
  cA (M ae s2 σ H2 x y v u _ I2 T d f) λc m ⟨z,g,i,j,k,e,l⟩=>?_) hm
 subst e;cases j
 exact wpAny_truthy_bool ⟨g,i,l⟩
def Ef (r O:R2)(ta tb tc:TE):TE:=λσ H Q=>ta σ H λx T=>tb σ T λy H2=>r x y H2 λz M=>∃k,z=.bl k /\
 (if k=true then tc σ M λU d=>O y U d Q else Q (.bl false) M)
theorem Eg {op M:CmpOp}{r T:R2}(j:dN X (compareOp op) r)(O:dN X (compareOp M) T)(ha:PE X a ta)(hb:PE X b tb)(hc:PE X c tc)
  (hm:lastMarks [op,M] [b,c]=false:=by with_unfolding_all rfl):PE X (.Compare a [op,M] [b,c] pos) (Ef r T ta tb tc):=by
 intro ae s σ H Q I h;refine Compare_chain (cA (ha ae s σ H _ I h) λv s1 ⟨x,l,I1,m,n⟩=>chain_link (cA (hb ae s1 σ l _ I1 n) λu s2 ⟨y,H2,I2,U,o⟩=>
  cA (j ae s2 σ H2 x y v u _ I2 m U o) λd p ⟨z,f,g,q,k,e,i⟩=>?_)) hm
 subst e;cases q
 refine wpAny_truthy_bool ?_;cases k with
 |false=>exact ite_ff ⟨.bl false,f,g,rfl,i⟩
 |true=>exact ite_tt (chain_last (cA (hc ae p σ f _ g i) λt w ⟨A,B,C,D,E⟩=>O ae w σ B y A u t Q C U D E))
theorem nq:(sizeLine:Nat)<2 ^ 63:=by rw[sizeLine_eq];decide
theorem zF:dN X (binaryOp .Add) (λx y H Q=>∃i j,x=.str i/\y=.str j/\i.length+j.length<=sizeLine/\Q (.str (i++j)) H):=by
 intro ae s σ H x y v u Q I M O h;obtain⟨i,j,rfl,rfl,hz,q⟩:=h;obtain⟨t,rfl⟩:=M;obtain⟨t',rfl⟩:=O;exact add_str (λt' tk=>⟨.str (i++j),H,I.tok _,⟨_,rfl⟩,q⟩) hz
theorem hG (r:bj [x] us):∃u,us=[u]/\aZ x u:=by
 cases r with
 |cons M O=>cases O;exact⟨_,rfl,M⟩
theorem Kd (r:bj [x,y] us):∃u M,us=[u,M]/\aZ x u/\aZ y M:=by
 cases r with
 |cons O T=>
  cases T with
  |cons U d=>cases d;exact⟨_,_,rfl,O,U⟩
theorem C7 (hc:X.calm=true):ci X (.builtin "max") (λxs H Q=>∃i j,xs=[.int i,.int j]/\Q (.int (if j > i then j else i)) H):=by
 intro ae s σ H xs us Q I r h;obtain⟨i,j,rfl,q⟩:=h;obtain⟨u,M,rfl,⟨t,rfl⟩,⟨t',rfl⟩⟩:=Kd r;refine max_two_ints (I.ok.hd hc) λh' tk k=>⟨_,H,I.kept k,?_,q⟩;by_cases hj:j > i
 ·rw[if_pos hj,if_pos hj];exact⟨_,rfl⟩
 ·rw[if_neg hj,if_neg hj];exact⟨_,rfl⟩
theorem C8 (hc:X.calm=true):ci X (.builtin "min") (λxs H Q=>∃i j,xs=[.int i,.int j]/\Q (.int (if j<i then j else i)) H):=by
 intro ae s σ H xs us Q I r h;obtain⟨i,j,rfl,q⟩:=h;obtain⟨u,M,rfl,⟨t,rfl⟩,⟨t',rfl⟩⟩:=Kd r;refine min_two_ints (I.ok.hd hc) λh' tk k=>⟨_,H,I.kept k,?_,q⟩;by_cases hj:j<i
 ·rw[if_pos hj,if_pos hj];exact⟨_,rfl⟩
 ·rw[if_neg hj,if_neg hj];exact⟨_,rfl⟩
theorem C9:ci X (.type "int") (λxs H Q=>(∃i,xs=[.int i]/\Q (.int i) H)\/∃k,xs=[.bl k]/\Q (.int (if k then 1 else 0)) H):=by
 intro ae s σ H xs us Q I r h;rcases h with⟨i,rfl,q⟩|⟨k,rfl,q⟩
 ·obtain⟨u,rfl,t,rfl⟩:=hG r;exact call_int_int ⟨.int i,H,I,⟨_,rfl⟩,q⟩
 ·obtain⟨u,rfl,M⟩:=hG r;cases M
  exact call_int_bool ⟨.int (if k then 1 else 0),H,I.tok _,⟨_,rfl⟩,q⟩
end
structure JL (h:Heap)(x dx C:Addr)(mA:Str->Option Value):Prop where
 obj:h.get? x=some (PySem.W.instObj C dx)
 ns:h.Ns1 dx mA
 ne:dx≠x
section
variable {prog:Program}{w:World}{A:Around}{E:QV}{s:Shared}{K:Frag}{x dx C f:Addr}{mA:SV}{name:Str}{v:Value}
end
theorem lw.some_of (r:lw (some v) o):∃u,o=some u/\aZ v u:=by
 cases o with
 |none=>exact(show False from r).elim
 |some u=>exact⟨u,rfl,r⟩
theorem lw.none_of (r:lw none o):o=none:=by
 cases o with
 |none=>rfl
 |some u=>exact(show False from r).elim
section
variable {P:Program}{w:World}{H H':Hp}{h h':Heap}{a C dx:Addr}{fs WX:List (Str×V)}
end
structure Cls (K:Frag)(C:Addr):Prop where
 pg:PySem.W.plainGet K C Str.empty=true
 hd:PySem.W.hasDictIn K C=true
 po:PySem.W.plainOver K C=true
 sa:PySem.W.findIn K (.ref C) "__setattr__" = some (some (.builtin "object.__setattr__"))
theorem Cls.get {K:Frag}{C:Addr}(c:Cls K C)(f:Str):PySem.W.plainGet K C f=true:=c.pg
structure Meth (K:Frag)(C:Addr)(m:Str)(f:Addr):Prop where
 at_:PySem.W.findIn K (.ref C) m=some (some (.ref f))
 fn:PySem.W.isFn K (.ref f)=true
 kp:PySem.W.keepIn K (.ref f)=true
section
variable {X:Cx}{ae:AO}{σ:St}{H:Hp}{s:Shared}{a C dx:Addr}{fs:List (Str×V)}{f:Str}{v:V}{A:Around}{E:QV}
theorem Inv.made (I:Inv X ae σ H s):Inv X ae σ (upd (upd H s.heap.objs.size (.own (s.heap.objs.size+1))) (s.heap.objs.size+1) (.ins C s.heap.objs.size []))
  { s with heap:=(s.heap.push PySem.W.emptyDict).push (PySem.W.instObj C s.heap.objs.size) }:=by
 have M:(s.heap.push PySem.W.emptyDict).get? s.heap.objs.size=some PySem.W.emptyDict:=vY s.heap rfl;have e2:((s.heap.push PySem.W.emptyDict).push (PySem.W.instObj C s.heap.objs.size)).get? (s.heap.objs.size+1)=some (PySem.W.instObj C s.heap.objs.size):=by
  have:=vY (s.heap.push PySem.W.emptyDict) (o:=PySem.W.instObj C s.heap.objs.size) rfl;rwa [Heap.size_push]at this
 have O:(s.heap.push PySem.W.emptyDict).Ns s.heap.objs.size (λ_=>none):=⟨PySem.W.emptyDict,#[],_,M,rfl,(λe he=>absurd he (by simp)),λ_=>rfl⟩;have I1:=I.laid (a:=s.heap.objs.size) (o:=.own (s.heap.objs.size+1)) (h':=s.heap.push PySem.W.emptyDict) (t':=s.toks) (λb u q=>vZ _ q) (vT _) ⟨_,M⟩;refine I1.laid (a:=s.heap.objs.size+1) (o:=.ins C s.heap.objs.size []) (t':=s.toks) (λb u q=>vZ _ q) (le_of_eq (Heap.size_push _ _)) ?_;have ne:s.heap.objs.size≠s.heap.objs.size+1:=vS (lt_succ_self _);refine⟨by rw[aD ne,aA],uN _,ne,e2,λ_=>none,(Heap.Ns1.of_empty O).at λo q=>vZ _ q,λ_=>True.intro,λy hy=>absurd rfl hy⟩
end
section
variable {X:Cx}{o e value:Expr}{f:Str}{pos GL ML:Pos}{ta tv:TE}
end
section
variable {X:Cx}{ae:AO}{σ:St}{H:Hp}{s:Shared}{A:Around}{E:QV}{Q:QV}{c:Value}{b:Bool}
inductive TyOf (K:Frag)(H:Hp):V->Value->Prop where
 |non:TyOf K H .non (.type "NoneType")
 |bl (x:Bool):TyOf K H (.bl x) (.type "bool")
 |int (i:Int):TyOf K H (.int i) (.type "int")
 |str (x:Str):TyOf K H (.str x) (.type "str")
 |flt (x:UInt64):TyOf K H (.flt x) (.type "float")
 |lst {a:Addr}{xs:List V}(e:H a=some (.lst xs)):TyOf K H (.ref a) (.type "list")
 |frz {a:Addr}{o:Obj}{xs:List V}(e:H a=some (.frz o (.lst xs))):TyOf K H (.ref a) (.type "list")
 |tup {a:Addr}{xs:List V}(e:H a=some (.tup xs)):TyOf K H (.ref a) (.type "tuple")
 |dK {a:Addr}{aL:List (dO×V)}{ob:Obj}(e:H a=some (.dK aL ob)):TyOf K H (.ref a) (.type "dict")
 |dT {a:Addr}{aL:List (List dO×V)}(e:H a=some (.dT aL)):TyOf K H (.ref a) (.type "dict")
 |ins {a C dx:Addr}{fs:List (Str×V)}(e:H a=some (.ins C dx fs)) (cl:Cls K C) (ha:PySem.W.findIn K (.ref C) "__class__" = some (some (.builtin "object.__class__")))
   (hn:PySem.W.specialIn K (.builtin "object.__class__") "__get__" = some (some (.builtin "getset_descriptor.__get__"))) (QR:PySem.W.takesIn K (.builtin "object.__class__")=some true)
   (hm:PySem.W.mroIn K C (.type "object")=some true):TyOf K H (.ref a) (.ref C)
end
structure eQ (k:Nat)(A:Around):Prop where
 hd:A.handled=none
 dp:A.depth+3*k+5<recursionLimit
 un:A.units+16*k+200<cLine
theorem eQ.mono (r:eQ k A)(h:j<=k):eQ j A:=⟨r.hd,by have:=r.dp;lia,by have:=r.un;lia⟩
theorem eQ.deeper (r:eQ (k+1) A)(env:Env):eQ k (A.deeper env) :=
 ⟨r.hd,by have:=r.dp;show A.depth+1+3*k+5<_;lia,by have:=r.un;show A.units+3+16*k+200<_;lia⟩
theorem eQ.in1 (r:eQ (k+1) A):eQ k A.in1 :=
 ⟨r.hd,by have:=r.dp;show A.depth+3*k+5<_;lia,by have:=r.un;show A.units+1+16*k+200<_;lia⟩
theorem eQ.depth (r:eQ k A):A.depth<recursionLimit:=by have:=r.dp;lia
def Op:TA:=λ_ H Q=>Q [] H
def Kf (M:TE)(O:TA):TA:=λσ H Q=>M σ H λx T=>O σ T λxs H2=>Q (x::xs) H2
section
variable {X:Cx}{e:Expr}{es:QD}{te:TE}{t:TA}{pos:Pos}
theorem gI:PA X [] Op:=λ_ _ _ _ H Q I h=>Calls.spliced_nil ⟨[],H,I,.nil,h⟩
theorem cO (ha:PE X e te)(hr:PA X es t)(hs:starEach (e::es) X.env=(false,eval e X.env)::starEach es X.env:=by rfl):PA X (e::es) (Kf te t):=by
 intro pos ae s σ H Q I h;rw[hs];show wpAny _ _ (spliced ((false,eval e X.env)::backTo pos (starEach es X.env))) _ _ s;refine Calls.spliced_cons (cA (ha ae s σ H _ I h) λu s1 ⟨x,M,I1,O,T⟩=>?_);exact cA (hr pos ae s1 σ M _ I1 T) λus s2 ⟨xs,H2,I2,U,a⟩=>⟨x::xs,H2,I2,.cons O U,a⟩
def Oq (t:TA):TE:=λσ H Q=>t σ H λxs M=>xs.length<=sizeLine/\∀p,M p=none->Q (.ref p) (upd M p (.tup xs))
def RB (t:TA):TE:=λσ H Q=>t σ H λxs M=>xs.length<=sizeLine/\∀p,M p=none->Q (.ref p) (upd M p (.lst xs))
theorem zH {O}(h:PA X es t):PE X (.Tuple es O pos) (Oq t):=by
 intro ae s σ H Q I hq;refine wpAny_Tuple_spliced (cA (h pos ae s σ H _ I hq) λus s1 ⟨xs,M,I1,r,z,q⟩=>⟨by rw[<-r.length];exact z,?_⟩);have hf:M s1.heap.objs.size=none:=I1.hok.fresh (vT _);refine⟨.ref s1.heap.objs.size,upd M s1.heap.objs.size (.tup xs),I1.laid (t':=s1.toks) (λb u e=>vZ _ e) (vT _) ?_,rfl,q _ hf⟩;exact⟨z,us,r,⟨_,vY _ rfl,rfl,_,rfl⟩⟩
theorem Ei (h:PA X es t):PE X (.List es pos) (RB t):=by
 intro ae s σ H Q I hq;refine wpAny_List_spliced (cA (h pos ae s σ H _ I hq) λus s1 ⟨xs,M,I1,r,z,q⟩=>⟨by rw[<-r.length];exact z,?_⟩);have hf:M s1.heap.objs.size=none:=I1.hok.fresh (vT _);refine⟨.ref s1.heap.objs.size,upd M s1.heap.objs.size (.lst xs),I1.laid (t':=s1.toks) (λb u e=>vZ _ e) (vT _) ?_,rfl,q _ hf⟩;exact⟨z,us,0,r,vY _ rfl⟩
end
abbrev Sp:=List V->Hp->VK->XK->Prop
abbrev Kg:=List Env->Hp->Shared->XK->QV
structure Env0 (P:Program)(w:World)(K:Frag)(mg:Str->Option Value)(base:Heap)(A:Around)(outer:List Env)(s:Shared)(H:Hp):Prop where
 frames:A.frames=some outer
 mod:Mod K mg base
 bs:∀b o,base.get? b=some o->s.heap.get? b=some o/\H b=none
 bsz:base.objs.size<=s.heap.objs.size
 funs:s.heap.FunFrames base outer
 frf:∀b∈DU outer,H b=none
 hok:lx P w H s.heap
 bare:AllBare s.gens
def CE (outer:List Env)(P:Program)(w:World)(H:Hp)(s:Shared)(Q:VK)(u:Value)(s':Shared):Prop :=
 ∃v H',s'.os=s.os/\AllBare s'.gens/\Un (DU outer) [] H H' s.heap s'.heap/\lx P w H' s'.heap/\aZ v u/\Q v H'
def CR (CX:Kg)(outer:List Env)(P:Program)(w:World)(H:Hp)(s:Shared)(Q:VK)(E:XK)(r:Result)(s':Shared):Prop :=
 match r with
 |.ok (.ret u)=>CE outer P w H s Q u s'
 |.ok _=>False
 |.error e=>CX outer H s E e s'
structure sM (P:Program)(w:World)(K:Frag)(mg:Str->Option Value)(base:Heap)(CX:Kg)(k:Nat)(f:Addr)(fd:FuncData)(ps:List Str)(sp:Sp):Prop where
 len:∀vs H Q E,sp vs H Q E->vs.length=ps.length
 run:∀(A:Around)(outer:List Env)(s:Shared)(H:Hp)(args:Args)(us:List Value)(vs:List V)(Q:VK)(E:XK),eQ k A->Env0 P w K mg base A outer s H->BindsTo s fd args (ps.zip us)->bj vs us->sp vs H Q E ->
  codeAny (model P w) A (.call (.ref f) args) (CR CX outer P w H s Q E) s
section
variable {X:Cx}{ae:AO}{σ:St}{H:Hp}{s s':Shared}
theorem Inv.env0 (I:Inv X ae σ H s):Env0 X.prog X.w X.K X.mg X.base X.A X.stack s H :=
 ⟨I.ok.frames,I.ok.mod,I.bs,vR I.ok.bsz I.sz,I.stack,I.stkFree,I.hok,I.bare⟩
theorem Inv.after (I:Inv X ae σ H s)(h:CE X.stack X.prog X.w H s Q u s'):EP X ae σ Q u s':=by
 obtain⟨v,H',os,bare,un,hok,r,q⟩:=h;obtain⟨hh,g,d,t,M⟩:=s';obtain rfl:M=s.os:=os;exact⟨v,H',I.call (h':=hh) (g':=g) (d':=d) (t':=t) (ch:=[]) un hok bare (λb z=>absurd z (by simp)),r,q⟩
end
def Ot (sp:Sp)(M:List V)(E:XK)(t:TA):TE:=λσ H Q=>t σ H λvs O=>sp (vs++M) O Q E
def pR (K:Frag)(fd:FuncData)(ps:LS)(ds:LU):Prop :=
 ∀(s:Shared)(us:LU),K.In s.heap->(us++ds).length=ps.length->BindsTo s fd ⟨us,[]⟩ (ps.zip (us++ds))
theorem pR.all {K:Frag}{fd:FuncData}{ps:LS}(h:∀us:LU,us.length=ps.length->bindArgs fd ⟨us,[]⟩=pure (ps.zip us)):pR K fd ps []:=λs us _ hl=>by
 rw[uQ]at hl |-;exact .of_eq (h us hl)
def zI (CX:Kg)(X:Cx)(E:XK):Prop:=∀(ae:AO)(σ:St)(H:Hp)(s:Shared)(e:Value)(s':Shared),Inv X ae σ H s->CX X.stack H s E e s'->X.xe e s'
section
variable {X:Cx}{CX:Kg}{k:Nat}{f C:Addr}{fd:FuncData}{ps:LS}{sp:Sp}{MN:List V}{ds:LU}{E:XK}{x m:Str}{p pos dI:Pos}{e o:Expr}{es:QD}{ta:TE}{t:TA}
theorem Lz {ae:AO}{σ:St}{H:Hp}{s:Shared}{Q:VK}{us:LU}{vs:List V}(F:sM X.prog X.w X.K X.mg X.base CX k f fd ps sp)(hr:eQ k X.A)(hb:pR X.K fd ps ds)(hd:bj MN ds)(hx:zI CX X E)
  (I:Inv X ae σ H s) (r:bj vs us) (h:sp (vs++MN) H Q E):wq X (call (.ref f) us) (EP X ae σ Q) X.xe s:=by
 have M:bj (vs++MN) (us++ds):=r.append hd;have hl:(us++ds).length=ps.length:=by rw[<-M.length];exact F.len _ _ _ _ h
 refine wpAny_call (codeAny_mono (F.run X.A X.stack s H ⟨us,[]⟩ (us++ds) (vs++MN) Q E hr I.env0 (hb s us I.kIn hl) M h) λr s' hq=>?_);cases r with
 |error e=>exact hx ae σ H s e s' I hq
 |ok fl=>
  cases fl with
  |ret u=>exact I.after hq
  |next=>exact False.elim hq
  |brk=>exact False.elim hq
  |cont=>exact False.elim hq
theorem vj (F:sM X.prog X.w X.K X.mg X.base CX k f fd ps sp)(hr:eQ k X.A)(T:Gl X x)(hm:X.mg x=some (.ref f))(hk:PySem.W.keepIn X.K (.ref f)=true)(hb:pR X.K fd ps ds)(hd:bj MN ds)(hx:zI CX X E)
  (ha:PA X (e::es) t) (M:(x == ("__debug__" : Str))=false:=by decide) (he:starEach (e::es) X.env=(false,eval e X.env)::starEach es X.env:=by rfl) (O:(backTo pos (starEach es X.env)).any (·.1)=false:=by rfl):
  PE X (.Call (.Name x p) (e::es) [] pos) (Ot sp MN E t):=by
 intro ae s σ H Q I h;refine wpAny_Call_Name_kw (vg I T hm ?_ M);refine PySem.W.callWith_K (h₀:=X.base) I.ok.mod.kin hk (cA (ha pos ae s σ H _ I h) λus s1 ⟨vs,U,I1,r,q⟩=>⟨I1.kIn,?_⟩) he O;exact Lz F hr hb hd hx I1 r q
end
structure FnScope (N P:List Str)(sc:Scope):Prop where
 kind:sc.kind=.function
 co:sc.isCoroutine=false
 gen:sc.isGenerator=false
 nd:N.Nodup
 pre:N.take P.length=P
 par:∀x∈P,sc.names.lookup x=some .local\/sc.names.lookup x=some .cell
 nofree:∀y∈sc.names,y.2≠.free
theorem t8 {kindOf:Str->Option NameKind}{x:Str}:∀ {binds:List (Str×Value)}{m:SV},(∀v,(x,v)∉binds)->bindL kindOf binds m x=m x
 |[],_,_=>rfl
 | (n,v)::r,m,h=>by
  unfold bindL;rw[t8 λw hw=>h w (mZ _ hw)];split
  ·have:x≠n:=by rintro rfl;exact h v mX
   simp[this]
  ·rfl
theorem t9 {kindOf:Str->Option NameKind}{x:Str}:∀ {binds:List (Str×Value)}{m:SV},(∀v,(x,v)∉binds)->bindC kindOf binds m x=m x
 |[],_,_=>rfl
 | (n,v)::r,m,h=>by
  unfold bindC;rw[t9 λw hw=>h w (mZ _ hw)];split
  ·rfl
  ·have:x≠n:=by rintro rfl;exact h v mX
   simp[this]
theorem tE {kindOf:Str->Option NameKind}{x:Str}{v:Value}:∀ {P:LS}{vs:LU}{i:Nat}{m:SV},P.Nodup->P[i]? = some x->vs[i]? = some v->kindOf x=some .local ->
  bindL kindOf (P.zip vs) m x=some v
 |[],_,_,_,_,h,_,_=>by simp at h
 |_::_,[],_,_,_,_,h,_=>by simp at h
 |p::P,w::vs,0,m,nd,h1,h2,hk=>by
  simp at h1 h2;subst h1;subst h2;show bindL kindOf ((p,w)::P.zip vs) m p=_;unfold bindL;rw[t8 λv hv=>(nodup_cons.mp nd).1 (of_mem_zip hv).1,if_pos hk];simp
 |p::P,w::vs,i+1,m,nd,h1,h2,hk=>by
  show bindL kindOf ((p,w)::P.zip vs) m x=_;unfold bindL;exact tE (i:=i) (nodup_cons.mp nd).2 (by simpa using h1) (by simpa using h2) hk
theorem tF {kindOf:Str->Option NameKind}{x:Str}{v:Value}:∀ {P:LS}{vs:LU}{i:Nat}{m:SV},P.Nodup->P[i]? = some x->vs[i]? = some v->kindOf x≠some .local ->
  bindC kindOf (P.zip vs) m x=some v
 |[],_,_,_,_,h,_,_=>by simp at h
 |_::_,[],_,_,_,_,h,_=>by simp at h
 |p::P,w::vs,0,m,nd,h1,h2,hk=>by
  simp at h1 h2;subst h1;subst h2;show bindC kindOf ((p,w)::P.zip vs) m p=_;unfold bindC;rw[t9 λv hv=>(nodup_cons.mp nd).1 (of_mem_zip hv).1,if_neg hk];simp
 |p::P,w::vs,i+1,m,nd,h1,h2,hk=>by
  show bindC kindOf ((p,w)::P.zip vs) m x=_;unfold bindC;exact tF (i:=i) (nodup_cons.mp nd).2 (by simpa using h1) (by simpa using h2) hk
noncomputable def iJ (N:LS)(vs:List V):St:=vs.map some++List.replicate (N.length - vs.length) none
noncomputable def nu (CX:Kg)(P:Program)(w:World)(K:Frag)(mg:SV)(base:Heap)(N:LS)(qual:Str)(scope:Scope)(f:Addr)(cd:Value)(A:Around)(outer:List Env)(s:Shared)(H:Hp)(E:XK):Cx where
 prog:=P
 w:=w
 K:=K
 mg:=mg
 base:=base
 A:=A.deeper (envOfC qual scope s.heap.objs.size f cd)
 N:=N
 s₀:=s
 H₀:=H
 env:=envOfC qual scope s.heap.objs.size f cd
 outer:=outer
 stack:=envOfC qual scope s.heap.objs.size f cd::outer
 ex:=[]
 calm:=true
 fn:=λ_=>true
 pn:=[]
 xe:=λe s'=>wpAny (model P w) (A.deeper (envOfC qual scope s.heap.objs.size f cd)) (leaving (envOfC qual scope s.heap.objs.size f cd) e) (λ_ M=>CX outer H s E e M) (λO M=>CX outer H s E O M) s'
theorem xE {sc:Scope}{n:Nat}{x:Str}(h:sc.names.lookup x=some .cell):∃c,(cellsFrom n sc.names []).lookup x=some c:=by
 have q:=PySem.W.cellsFrom_some sc.names n [] (.inl h);exact uU q
theorem CB {CX:Kg}{P:Program}{w:World}{K:Frag}{mg:SV}{base:Heap}{N ps:LS}{qual:Str}{scope:Scope}{f:Addr}{cd:Value}{A:Around}{outer:List Env}{s s1:Shared}{H:Hp}{E:XK}{us:LU}{vs:List V}
  (S:FnScope N ps scope) (hd:A.handled=none) (M:Env0 P w K mg base A outer s H) (hl:vs.length=ps.length) (r:bj vs us)
  (x:InCallC s s.heap.objs.size (bindL (envOfC qual scope s.heap.objs.size f cd).kindOf (ps.zip us) λ_=>none) (cellsFrom (s.heap.objs.size+1) scope.names []) (bindC (envOfC qual scope s.heap.objs.size f cd).kindOf (ps.zip us) λ_=>none) s1):
  Inv (nu CX P w K mg base N qual scope f cd A outer s H E) [] (iJ N vs) H s1:=by
 have U:ps.length<=N.length:=by have:=congrArg List.length S.pre;rw[length_take]at this;lia
 obtain⟨h1,tk,rfl,hk⟩:=x.done;have O:∀b:Addr,b∉(nu CX P w K mg base N qual scope f cd A outer s H E).ex:=λb z=>absurd (show b∈([]:List Addr)from z) (by simp);refine⟨⟨M.mod,S.kind,rfl,rfl,vT _,λy z c h1 h2=>?_,λy hy=>?_,λy c _ h=>?_,λ_=>hd,Around.frames_deeper M.frames,.inr ⟨rfl,rfl⟩,λb z=>absurd z (O b),M.bs,M.bsz,λb _ _=>O b,λb z=>absurd z (O b),M.funs,M.frf⟩,
  rfl,M.bare,Un.kept hk,⟨_,x.toInCall.ns,λi y v h1 h2 h3=>?_⟩,λy c h=>⟨_,x.cell y c h⟩,M.hok.fresh (vT _),λy c h=>?_,λp hp=>absurd (show p∈([]:AO)from hp) (by simp),M.hok.kept hk,?_⟩
 ·exact name_of_addr x.apart (PySem.mem_of_lookup h1) (PySem.mem_of_lookup h2)
 ·have hy:scope.names.lookup y=some .cell\/scope.names.lookup y=some .free:=hy;rcases hy with hy|hy
  ·exact xE hy
  ·exact absurd rfl (S.nofree _ (PySem.mem_of_lookup hy))
 ·exact le_of_lt (x.above y c (PySem.mem_of_lookup h))
 ·have hi:i<vs.length:=by
   unfold iJ at h2;by_cases hi:i<vs.length
   ·exact hi
   ·rw[List.getElem?_append_right (by simpa using hi)]at h2;rw[getElem?_replicate]at h2;split at h2<;>cases h2
  have ha:vs[i]? = some v:=by
   unfold iJ at h2;rw[getElem?_append_left (by simpa using hi),vA]at h2;cases e:vs[i]? with
   |none=>rw[e]at h2;cases h2
   |some a=>rw[e]at h2;cases h2;rfl
  obtain⟨u,hu,d⟩:=r.get ha;have hp:ps[i]? = some y:=by
   rw[<-S.pre,List.getElem?_take_of_lt (by lia)];exact h1
  have T:ps.Nodup:=by rw[<-S.pre];exact S.nd.sublist (take_sublist _ _)
  refine⟨u,d,?_⟩;rcases S.par y (vL hp)with k|k
  ·exact .inl ⟨k,tE T hp hu k⟩
  ·obtain⟨c,e⟩:=xE (n:=s.heap.objs.size+1) k;refine .inr ⟨.inl k,c,e,?_⟩;have q:=x.cell y c e;rw[tF T hp hu (by show scope.names.lookup y≠_;rw[k];decide)]at q;exact q
 ·exact M.hok.fresh (le_of_lt (x.above y c (PySem.mem_of_lookup h)))
 ·unfold iJ;show _=N.length;rw[uZ,vI,length_replicate];lia
theorem AI {CX:Kg}{P:Program}{w:World}{K:Frag}{mg:SV}{base:Heap}{k:Nat}{f:Addr}{name qual:Str}{params:Arguments}{M:List Stmt}{scope:Scope}{d kV doc pm dG ct oc:Value}{an od:Option Addr}
  {oi:Array (Option Value)}{N ps:LS}{sp:Sp}(i:K.lookup f=some ⟨oc,od,.func (fnOf name qual params M scope d kV doc pm an dG ct),oi⟩) (j:PySem.W.codeIn K dG qual=true) (S:FnScope N ps scope)
  (len:∀vs H Q E,sp vs H Q E->vs.length=ps.length)
  (T:∀(A:Around)(outer:List Env)(s:Shared)(H:Hp)(vs:List V)(Q:VK)(E:XK),eQ k (A.deeper (envOfC qual scope s.heap.objs.size f dG))->sp vs H Q E ->
   ∃t,sP (nu CX P w K mg base N qual scope f dG A outer s H E) M t/\t { nx:=λ_ H'=>Q .non H',rt:=Q } (iJ N vs) H):
  sM P w K mg base CX (k+1) f (fnOf name qual params M scope d kV doc pm an dG ct) ps sp:=by
 refine⟨len,λA outer s H args us vs Q E hr a hb r g=>?_⟩;have hl:=len _ _ _ _ g;have h:K.In s.heap:=a.mod.kin.keeps λb o e=>(a.bs b o e).1;have l:s.heap.NoLimit:=a.mod.nolimit.keeps λb o e=>(a.bs b o e).1;have U:∀y∈ps.zip us,scope.names.lookup y.1=some .local\/(scope.names.lookup y.1=some .cell/\((cellsFrom (s.heap.objs.size+1) scope.names []).lookup y.1).isSome=true):=λ⟨n,v⟩ hy=>by
  rcases S.par n (of_mem_zip hy).1 with q|q
  ·exact .inl q
  ·exact .inr ⟨q,PySem.W.cellsFrom_some _ _ _ (.inl q)⟩
 refine codeAny_call_function hr.depth (h _ _ i) rfl S.co S.gen rfl (PySem.W.codeRec_of h j) (hb _ _ _ _ ?_);refine wpAny_newFunctionEnv_cells S.kind U λenv he s1 x=>?_;subst he;refine⟨l.keeps x.toInCall.keep,codeAny_func ?_⟩;obtain⟨t,m,hq⟩:=T A outer s H vs Q E (hr.deeper _) g;have I:Inv (nu CX P w K mg base N qual scope f dG A outer s H E) [] (iJ N vs) H s1:=CB S hr.hd a hl r x;refine wpAny_mono (m [] s1 (iJ N vs) H _ I hq) (λfl s' hs=>?_) λe s' hs=>hs;have fin:∀ {O:St}{H':Hp}{v:V}{u:Value},Inv (nu CX P w K mg base N qual scope f dG A outer s H E) [] O H' s'->aZ v u->Q v H'->CE outer P w H s Q u s' :=
  λ{O H' v u} J c q=>⟨v,H',J.os,J.bare,J.base,J.hok,c,q⟩
 cases fl with
 |ret u=>
  obtain⟨v,O,H',J,c,q⟩:=hs;exact fin J c q
 |next=>
  obtain⟨O,H',J,q⟩:=hs;exact fin (v:=V.non) (u:=Value.none) J rfl q
 |brk=>
  obtain⟨_,_,_,q⟩:=hs;exact False.elim q
 |cont=>
  obtain⟨_,_,_,q⟩:=hs;exact False.elim q
section
variable {X:Cx}{x:Str}{p pos:Pos}{e:Expr}{es:QD}{t:TA}{id T:String}{r:List V->Hp->VK->Prop}
def Uh (r:List V->Hp->VK->Prop)(t:TA):TE:=λσ H Q=>t σ H λvs M=>r vs M Q
theorem xF (hc:ci X (.builtin id) r)(U:Gl X x)(hm:X.mg x=none)(hv:bootBuiltins x=some (.builtin id))(ha:PA X (e::es) t)(hn:x ≠ "__name__":=by decide)(M:(x == ("__debug__" : Str))=false:=by decide)
  (he:starEach (e::es) X.env=(false,eval e X.env)::starEach es X.env:=by rfl) (O:(backTo pos (starEach es X.env)).any (·.1)=false:=by rfl):PE X (.Call (.Name x p) (e::es) [] pos) (Uh r t):=by
 intro ae s σ H Q I h;refine wpAny_Call_Name_kw (lK I U hm hv ?_ hn M);exact PyProof.Rows.callWith_builtin1 (cA (ha pos ae s σ H _ I h) λus s1 ⟨vs,a,I1,b,c⟩=>hc ae s1 σ a vs us Q I1 b c) he O
theorem tG (hc:ci X (.type T) r)(U:Gl X x)(hm:X.mg x=none)(hv:bootBuiltins x=some (.type T))(ha:PA X (e::es) t)(hn:x ≠ "__name__":=by decide)(M:(x == ("__debug__" : Str))=false:=by decide)
  (he:starEach (e::es) X.env=(false,eval e X.env)::starEach es X.env:=by rfl) (O:(backTo pos (starEach es X.env)).any (·.1)=false:=by rfl):PE X (.Call (.Name x p) (e::es) [] pos) (Uh r t):=by
 intro ae s σ H Q I h;refine wpAny_Call_Name_kw (lK I U hm hv ?_ hn M);exact PyProof.Rows.callWith_type1 (cA (ha pos ae s σ H _ I h) λus s1 ⟨vs,a,I1,b,c⟩=>hc ae s1 σ a vs us Q I1 b c) he O
end
end L2
namespace HT
open PySem PyProof.Rows
section
open PySem.SeqAt
open PySem.AutoSeq1 (wpAny_loadPart')
open PySem.MeetsSeq PySem.MeetsSeq2 PySem.MeetsSeq3
end
section
variable {prog:Program}{w:World}{A:Around}{E:QV}{s:Shared}
theorem Hw (d:IsTup s.heap t vs.toArray)(hb:IsTup s.heap b ws.toArray)(hv:vs≠[])
  (h1:ws=[]->Q (.ref t) s) (h2:ws≠[]->Q (.ref s.heap.objs.size) { s with heap:=s.heap.push { cls:=.type "tuple",data:=.seq (vs++ws).toArray } })
  (hsz:vs.length+ws.length<=sizeLine):wpAny (model prog w) A (binaryOp .Add (.ref t) (.ref b)) Q E s:=by
 obtain⟨⟨cls,dd,data,sl⟩,a,hc,n,hd⟩:=id d;obtain⟨⟨f,O,data2,T⟩,M,U,n2,c⟩:=id hb;simp only at hc hd U c;subst hc hd U c;have e:vs.toArray++ws.toArray=(vs++ws).toArray:=by simp
 by_cases hw:ws=[]
 ·exact concat_meets ⟨_,a,rfl⟩ ⟨_,M,rfl⟩ noFill_tuple_add seq_tuple_add slot_tuple_add entry_tuple_add (args_tuple_add_2 _ _)
   (tuple_addW1 t b vs.toArray ws.toArray n n2 dd O sl T (by simpa using hv) (by simp[hw])) ⟨a,M,h1 hw⟩
 ·refine concat_meets ⟨_,a,rfl⟩ ⟨_,M,rfl⟩ noFill_tuple_add seq_tuple_add slot_tuple_add entry_tuple_add (args_tuple_add_2 _ _)
   (tuple_addW2 t b vs.toArray ws.toArray n n2 dd O sl T (by simpa using hv) (by simpa using hw) (by rw[vH,vH];exact hsz)) ⟨a,M,?_⟩
  rw[e];exact h2 hw
noncomputable def eG (n d:Nat):OI->Nat
 |none=>d
 |some v=>if v<0 then (v+(n:Int)).toNat else min v.toNat n
theorem L0 (n d:Nat)(hd:d<=n)(o:OI):eG n d o<=n:=by
 cases o with
 |none=>exact hd
 |some v=>
  show(if v<0 then (v+(n:Int)).toNat else min v.toNat n)<=n;by_cases hv:v<0
  ·rw[if_pos hv];lia
  ·rw[if_neg hv];exact Nat.min_le_right _ _
theorem AJ (v:Int)(n d:Nat):(if v<0 then max (v+(n:Int)) 0 else min v (n:Int))=((eG n d (some v):Nat):Int):=by
 show(if v<0 then max (v+(n:Int)) 0 else min v (n:Int))=(((if v<0 then (v+(n:Int)).toNat else min v.toNat n):Nat):Int);by_cases hv:v<0
 ·simp only[if_pos hv];lia
 ·simp only[if_neg hv];lia
theorem zJ (lo hi:OI)(n:Nat):Builtin.Slice.sliceAdjust lo hi 1 (n:Int)=(((eG n 0 lo:Nat):Int),((eG n n hi:Nat):Int)):=by
 have h1:¬((1:Int)<0):=by lia
 unfold Builtin.Slice.sliceAdjust;simp only[h1,if_false];refine Prod.ext ?_ ?_
 ·cases lo with
  |none=>rfl
  |some v=>exact AJ v n 0
 ·cases hi with
  |none=>rfl
  |some v=>exact AJ v n n
theorem zK (i j:Nat):Builtin.Slice.slicePlaces (i:Int) (j:Int) 1=j - i:=by
 unfold Builtin.Slice.slicePlaces;have h1:(1:Int) > 0:=by lia
 simp only[h1,if_true,Int.ediv_one];split<;>lia
theorem pT (p:IsPart v o)(h:Q o s):wpAny (model prog w) A (Builtin.Slice.slicePartIndex v) Q E s:=by
 cases p with
 |none=>exact slicePart_none h
 |int i t=>exact slicePart_int h
theorem jj {sl:Addr}{vl T:Value}{lo hi:OI}{n:Nat}{Q:Int×Int×Nat->Shared->Prop}(hs:s.heap.IsSliceOf sl vl T .none)(pl:IsPart vl lo)(U:IsPart T hi)
  (h:Q (((eG n 0 lo:Nat):Int),1,eG n n hi - eG n 0 lo) s):wpAny (model prog w) A (Builtin.Slice.sliceApplied (.ref sl) (pure (n:Int))) Q E s:=by
 obtain⟨os,M,a,O⟩:=id hs;unfold Builtin.Slice.sliceApplied Builtin.Slice.sliceFields;refine wX (wX (wpAny_field M O (x:=vl) rfl (wX (wpAny_field M O (x:=T) rfl (wX (wpAny_field M O (x:=.none) rfl (wY ?_)))))));refine wX (slicePart_none ?_);show wpAny _ _ (if((1:Int) == 0)=true then _ else _) _ _ s;rw[if_neg (by decide)];refine wX (pT pl (wX (pT U (wX (wY ?_)))));show wpAny _ _ (match Builtin.Slice.sliceAdjust lo hi 1 (n:Int) with|(lo,hi)=>pure (lo,(1:Int),Builtin.Slice.slicePlaces lo hi 1)) _ _ s;rw[zJ lo hi n];show wpAny _ _ (pure (((eG n 0 lo:Nat):Int),(1:Int),Builtin.Slice.slicePlaces ((eG n 0 lo:Nat):Int) ((eG n n hi:Nat):Int) 1)) _ _ s;rw[zK];exact wY h
theorem Ej (xs:AV)(i k:Nat):((List.range k).filterMap λ(m:Nat)=>xs[((i:Int)+(m:Int)*1).toNat]?).toArray=((xs.toList.drop i).take k).toArray:=by
 have e:(λ(m:Nat)=>xs[((i:Int)+(m:Int)*1).toNat]?)=λm=>xs[i+m]?:=by
  funext m;have:((i:Int)+(m:Int)*1).toNat=i+m:=by lia
  rw[this]
 rw[e];have:=pick_run xs i k;rw[List.filterMap_map]at this;have e2:((λx=>xs[x]?) ∘ λx=>i+x)=λm=>xs[i+m]?:=rfl;rw[e2]at this;rw[this]
theorem mn {t sl:Addr}{items:AV}{vl a:Value}{lo hi:OI}{Q:QV}(O:IsTup s.heap t items)(hs:s.heap.IsSliceOf sl vl a .none)(pl:IsPart vl lo)(b:IsPart a hi)
  (hw:¬(eG items.size 0 lo=0/\eG items.size items.size hi=items.size))
  (h:Q (.ref s.heap.objs.size) { s with heap:=s.heap.push { cls:=.type "tuple",data:=.seq ((items.toList.drop (eG items.size 0 lo)).take (eG items.size items.size hi - eG items.size 0 lo)).toArray } })
  (hsz:items.size<=sizeLine):wpAny (model prog w) A (getItem (.ref t) (.ref sl)) Q E s:=by
 have M:sizeOk (.seq ((items.toList.drop (eG items.size 0 lo)).take (eG items.size items.size hi - eG items.size 0 lo)).toArray):=by
  show((items.toList.drop (eG items.size 0 lo)).take (eG items.size items.size hi - eG items.size 0 lo)).toArray.size<=sizeLine
  rw[vH,length_take,length_drop,vG]
  lia
 have hj:eG items.size items.size hi<=items.size:=L0 _ _ (vT _) hi
 obtain⟨os,T,U,e⟩:=id hs
 have c:s.TypeIs (.ref sl) "slice":=⟨os,T,U⟩
 unfold getItem
 try with_reducible refine wpAny_holding ?_
 first|refine wX (wY ?_)|skip
 refine wX (wpAny_sequenceKey O.typeIs (by decide) ?_)
 refine wX (wpAny_callSpecial?_slot (name:=Str.ofString "__getitem__") O.typeIs PyProof.Rows.slot_tuple_getitem
  (wpAny_call_entry PyProof.Rows.slot_tuple_getitem O.typeIs entry_tuple_getitem ?_ (args_tuple_getitem _ _)))
 show wpAny _ _ (Builtin.Tuple.tupleItemsOf (.ref t)>>=_) _ _ s
 refine wX (tupleItemsOf_ O ?_)
 refine wX (wpAny_typeOf c ?_)
 rw[if_pos (by decide)]
 refine wX (jj hs pl b ?_)
 have d:¬((((eG items.size 0 lo:Nat):Int) == 0 && (1:Int) == 1 && (eG items.size items.size hi - eG items.size 0 lo) == items.size)=true):=by
  intro q
  rw[vC,vC]at q
  have f:((eG items.size 0 lo:Nat):Int)=0:=eq_of_beq q.1.1
  have g:eG items.size items.size hi - eG items.size 0 lo=items.size:=eq_of_beq q.2
  exact hw ⟨by lia,by lia⟩
 show wpAny _ _ (if(((eG items.size 0 lo:Nat):Int) == 0 && (1:Int) == 1 && (eG items.size items.size hi - eG items.size 0 lo) == items.size)=true then _ else _) _ _ s
 rw[if_neg d,Ej]
 first
  |exact wX (m:=Builtin.Tuple.tupleExact _) (wpAny_newObj_type (wY ⟨_,rfl,wY h⟩) M)
  |exact wX (m:=Builtin.Tuple.tupleExact _) (wpAny_newObj_type (wX (wY (wY ⟨_,rfl,wY h⟩))) M)
  |exact wX (wX (m:=Builtin.Tuple.tupleExact _) (wpAny_newObj_type (wY (wY ⟨_,rfl,wY h⟩)) M))
  |exact wX (wX (m:=Builtin.Tuple.tupleExact _) (wpAny_newObj_type (wY ⟨_,rfl,wY h⟩) M))
end
end HT
namespace L2
open PySem PySem.Spec PyProof.Rows
abbrev TO:=St->Hp->(OI->Hp->Prop)->Prop
def PO (X:Cx)(e:Option Expr)(t:TO):Prop :=
 ∀(ae:AO)(s:Shared)(σ:St)(H:Hp)(Q:OI->Hp->Prop),Inv X ae σ H s->t σ H Q ->
  wq X (evalPart e X.env) (λu s'=>∃o H',Inv X ae σ H' s'/\IsPart u o/\Q o H') X.xe s
def Hx:TO:=λ_ H Q=>Q none H
def Ou (t:TE):TO:=λσ H Q=>t σ H λx M=>∃i,x=.int i/\Q (some i) M
section
variable {X:Cx}{e:Expr}{te:TE}{lo hi:Option Expr}{tl th:TO}{pos p2:Pos}
theorem Hy:PO X none Hx:=by
 intro ae s σ H Q I h;rw[evalPart_none];exact wY ⟨none,H,I,.none,h⟩
theorem Hz (h:PE X e te):PO X (some e) (Ou te):=by
 intro ae s σ H Q I hw;rw[evalPart_some];refine cA (h ae s σ H _ I hw) λu s1 ⟨x,M,I1,O,T⟩=>?_;obtain⟨i,rfl,q⟩:=T;obtain⟨t,rfl⟩:=O;exact⟨some i,M,I1,.int i t,q⟩
def DV (X:Cx)(r:V->OI->OI->Hp->VK->Prop):Prop :=
 ∀(ae:AO)(s:Shared)(σ:St)(H:Hp)(x:V)(v vl M:Value)(lo hi:OI)(sl:Addr)(Q:VK),Inv X ae σ H s->aZ x v->s.heap.IsSliceOf sl vl M .none->IsPart vl lo->IsPart M hi->r x lo hi H Q ->
  ∃T id,typeLookup (.type T) "__getitem__" = pure (some (.builtin id))/\s.TypeIs v T/\wq X (getItem v (.ref sl)) (EP X ae σ Q) X.xe s
theorem DV.or (h:DV X r)(h':DV X U):DV X (λx lo hi H Q=>r x lo hi H Q\/U x lo hi H Q):=by
 intro ae s σ H x v vl M lo hi sl Q I O hs pl T q;rcases q with q|q
 ·exact h ae s σ H x v vl M lo hi sl Q I O hs pl T q
 ·exact h' ae s σ H x v vl M lo hi sl Q I O hs pl T q
def Wg (r:V->OI->OI->Hp->VK->Prop)(te:TE)(tl th:TO):TE:=λσ H Q=>te σ H λx M=>tl σ M λl H2=>th σ H2 λu O=>r x l u O Q
theorem Ek (hr:DV X r)(he:PE X e te)(hl:PO X lo tl)(hu:PO X hi th):PE X (.Subscript e (.Slice lo hi none p2) pos) (Wg r te tl th):=by
 intro ae s σ H Q I h;refine Subscript_ (cA (he ae s σ H _ I h) λv s1 ⟨x,a,I1,c,d⟩=>?_);refine wpAny_Slice (cA (hl ae s1 σ a _ I1 d) λvl s2 ⟨l,H2,I2,pl,f⟩=>cA (hu ae s2 σ H2 _ I2 f) λO M ⟨u,U,g,i,j⟩=>?_);rw[evalPart_none];refine wY ?_;have k:Inv X ae σ U { M with heap:=M.heap.push { cls:=.type "slice",data:=.fields #[vl,O,.none] } }:=g.kept (t':=M.toks) λb ob q=>vZ _ q;obtain⟨T,id,m,n,o⟩:=hr ae { M with heap:=M.heap.push { cls:=.type "slice",data:=.fields #[vl,O,.none] } } σ U x v vl O l u M.heap.objs.size Q k c (Heap.IsSliceOf.new ..) pl i j;show wq X (subscriptTail e (.Slice lo hi none p2) v (.ref M.heap.objs.size)) (EP X ae σ Q) X.xe { M with heap:=M.heap.push { cls:=.type "slice",data:=.fields #[vl,O,.none] } };exact tail_any (ops:=[.ref M.heap.objs.size,v]) n m o (by with_unfolding_all rfl)
def sQ (xs:List V)(lo hi:OI):List V:=(xs.drop (HT.eG xs.length 0 lo)).take (HT.eG xs.length xs.length hi - HT.eG xs.length 0 lo)
theorem oj (xs:List V)(lo hi:OI):(sQ xs lo hi).length<=xs.length:=by
 unfold sQ;rw[length_take,length_drop];lia
def RC (K:Frag):V->OI->OI->Hp->VK->Prop:=λx lo hi H Q=>∃a xs,x=.ref a/\ji K H a xs /\
 ¬(HT.eG xs.length 0 lo=0/\HT.eG xs.length xs.length hi=xs.length)/\∀p,H p=none->Q (.ref p) (upd H p (.tup (sQ xs lo hi)))
theorem L1:DV X (RC X.K):=by
 intro ae s σ H x v vl c lo hi sl Q I T hs pl U h;obtain⟨a,xs,rfl,hx,hw,q⟩:=h;cases T
 obtain⟨its,r,O,hz⟩:=I.tuple hx;have M:its.toArray.size=xs.length:=by rw[vH];exact r.length.symm
 refine⟨"tuple",_,PyProof.Rows.slot_tuple_getitem.lookup,O.typeIs,?_⟩;refine HT.mn O hs pl U (by rw[M];exact hw) ?_ (by rw[M];exact hz);rw[M];refine⟨.ref s.heap.objs.size,_,I.laid (t':=s.toks) (o:=.tup (sQ xs lo hi)) (λb ob q=>vZ _ q) (vT _) ?_,rfl,q _ (I.hok.fresh (vT _))⟩;exact⟨vR (oj xs lo hi) hz,_,(r.drop (HT.eG xs.length 0 lo)).take (HT.eG xs.length xs.length hi - HT.eG xs.length 0 lo),IsTup.new _ _⟩
def Ov (K:Frag):R2:=λx y H Q=>∃a b xs ys,x=.ref a/\y=.ref b/\ji K H a xs/\ji K H b ys/\xs≠[]/\xs.length+ys.length<=sizeLine /\
 (ys=[]->Q (.ref a) H)/\(ys≠[]->∀p,H p=none->Q (.ref p) (upd H p (.tup (xs++ys))))
theorem bj.nil_iff (r:bj xs us):us=[]↔xs=[]:=by
 cases r with
 |nil=>simp
 |cons _ _=>simp
theorem HA:dN X (binaryOp .Add) (Ov X.K):=by
 intro ae s σ H x y v u Q I U c h;obtain⟨a,b,xs,ys,rfl,rfl,ha,hb,hx,hz,d,f⟩:=h;cases U
 cases c
 obtain⟨its,O,g,_⟩:=I.tuple ha;obtain⟨T,M,p2,_⟩:=I.tuple hb;refine HT.Hw g p2 (λz=>hx (O.nil_iff.mp z)) (λz=>⟨.ref a,H,I,rfl,d (M.nil_iff.mp z)⟩) (λz=>?_) (by rw[<-O.length,<-M.length];exact hz);refine⟨.ref s.heap.objs.size,_,I.laid (t':=s.toks) (o:=.tup (xs++ys)) (λb ob q=>vZ _ q) (vT _) ?_,rfl,f (λw=>z (M.nil_iff.mpr w)) _ (I.hok.fresh (vT _))⟩;exact⟨by rw[uZ];exact hz,_,O.append M,IsTup.new _ _⟩
end
def CC (n:Nat)(i:Int):Option Nat:=if 0<=i then (if i<n then some i.toNat else none)else if -(n:Int)<=i then some (i+n).toNat else none
def oq {α:Type}(xs:List α)(i:Int):Option α:=(CC xs.length i).bind λj=>xs[j]?
theorem AK (h:CC n i=some j):seqIndex? i n=some j/\j<n/\-(n:Int)<=i/\i<n:=by
 unfold CC at h;by_cases h0:0<=i
 ·rw[if_pos h0]at h;by_cases h1:i<n
  ·rw[if_pos h1]at h;have e:i.toNat=j:=vK h;exact⟨by rw[seqIndex_of h0 h1,e],by lia,by lia,h1⟩
  ·rw[if_neg h1]at h;cases h
 ·rw[if_neg h0]at h;by_cases h1 : -(n:Int)<=i
  ·rw[if_pos h1]at h;have e:(i+n).toNat=j:=vK h;exact⟨by rw[seqIndex_neg (by lia) h1,e],by lia,h1,by lia⟩
  ·rw[if_neg h1]at h;cases h
theorem vk {α:Type}{xs:List α}{i:Int}{v:α}(h:oq xs i=some v):∃j,seqIndex? i xs.length=some j/\xs[j]? = some v/\j<xs.length/\-(xs.length:Int)<=i/\i<xs.length:=by
 unfold oq at h;cases e:CC xs.length i with
 |none=>rw[e]at h;cases h
 |some j=>
  rw[e]at h;obtain⟨h1,h2,h3,h4⟩:=AK e;exact⟨j,h1,h,h2,h3,h4⟩
theorem HB {α:Type}{xs:List α}{j:Nat}{v:α}(h:xs[j]? = some v):oq xs (j:Int)=some v:=by
 have hj:j<xs.length:=(vV h).1;have e:CC xs.length (j:Int)=some j:=by
  unfold CC;rw[if_pos (by lia),if_pos (by lia)];simp
 unfold oq;rw[e];exact h
def vn (b:Expr):Prop:=∀o i,subscripted b false o i=operate [o,i] (getItem o i)
def Ha (X:Cx)(r:R2):Prop :=
 ∀(O M:Expr)(ae:AO)(s:Shared)(σ:St)(H:Hp)(x y:V)(v u:Value)(Q:VK),Inv X ae σ H s->aZ x v->aZ y u->r x y H Q ->
  subscripted M false v u=operate [v,u] (getItem v u)->wq X (subscriptTail O M v u) (EP X ae σ Q) X.xe s
def HC (X:Cx)(id:String)(r:V->List V->Hp->VK->Prop):Prop :=
 ∀(ae:AO)(s:Shared)(σ:St)(H:Hp)(x:V)(xs:List V)(v:Value)(us:LU)(Q:VK),Inv X ae σ H s->aZ x v->bj xs us->r x xs H Q ->
  wq X (call (.builtin id) (v::us)) (EP X ae σ Q) X.xe s
section
variable {X:Cx}{a b:Expr}{ta tb:TE}{pos:Pos}
theorem Ha.or (h:Ha X r)(h':Ha X r'):Ha X (λx y H Q=>r x y H Q\/r' x y H Q):=by
 intro M O ae s σ H x y v u Q I T U q hs;rcases q with q|q
 ·exact h M O ae s σ H x y v u Q I T U q hs
 ·exact h' M O ae s σ H x y v u Q I T U q hs
theorem HC.or {id:String}{r M:V->List V->Hp->VK->Prop}(h:HC X id r)(h':HC X id M):HC X id (λx xs H Q=>r x xs H Q\/M x xs H Q):=by
 intro ae s σ H x xs v us Q I O rs q;rcases q with q|q
 ·exact h ae s σ H x xs v us Q I O rs q
 ·exact h' ae s σ H x xs v us Q I O rs q
theorem Kh (hr:Ha X r)(ha:PE X a ta)(hb:PE X b tb)(hs:vn b):PE X (.Subscript a b pos) (QC r ta tb):=by
 intro ae s σ H Q I h;exact Subscript_ (Lo ha hb I h λv u s2 x y H2 I2 M O q=>hr a b ae s2 σ H2 x y v u Q I2 M O q (hs _ _))
def RD (K:Frag):R2:=λx y H Q=>∃p xs i v,x=.ref p/\y=.int i/\fx K H p xs/\oq xs i=some v/\Q v H
def RE (K:Frag):R2:=λx y H Q=>∃p xs i v,x=.ref p/\y=.int i/\ji K H p xs/\oq xs i=some v/\Q v H
def RF:R2:=λx y H Q=>∃z i c,x=.str z/\y=.int i/\z.length<=sizeLine/\oq z.cps.toList i=some c/\Q (.str ⟨#[c]⟩) H
theorem HD:Ha X (RD X.K):=by
 intro M O ae s σ H x y v u Q I c d h hs;obtain⟨p,xs,i,z,rfl,rfl,hq,he,q⟩:=h;cases c
 obtain⟨t,rfl⟩:=d;obtain⟨its,r,pl,hz⟩:=I.list hq;obtain⟨j,h1,h2,h3,h4,h5⟩:=vk he;obtain⟨w,U,T⟩:=r.get h2;have hl:=r.length;have hn:=nq;have fin:EP X ae σ Q w s:=⟨z,H,I,T,q⟩;by_cases h0:0<=i
 ·have hj:i.toNat=j:=by
   rw[seqIndex_of h0 h5]at h1;exact vK h1
  exact item_listR pl.isList h0 (by lia) (by rw[hj];simpa using U) fin hs
 ·have hj:(i+(its.toArray.size:Int)).toNat=j:=by
   rw[seqIndex_neg (by lia) h4]at h1;rw[vH,<-hl];exact vK h1
  exact subscriptTail_builtinR (x:=w) pl.isList.typeIs slot_list_getitem.lookup
   (wpAny_getItem_list_neg (Q:=λr s'=>r=w/\EP X ae σ Q r s') pl.isList (by lia) (by rw[vH]<;>lia) (by lia) (by rw[hj];simpa using U) ⟨rfl,fin⟩) hs
theorem vp:Ha X (RE X.K):=by
 intro M O ae s σ H x y v u Q I U c h hs;obtain⟨p,xs,i,z,rfl,rfl,hq,he,q⟩:=h;cases U
 obtain⟨t,rfl⟩:=c;obtain⟨its,r,pl,hz⟩:=I.tuple hq;obtain⟨j,h1,h2,h3,h4,h5⟩:=vk he;obtain⟨w,d,T⟩:=r.get h2;have hl:=r.length;have hn:=nq;have fin:EP X ae σ Q w s:=⟨z,H,I,T,q⟩;exact subscriptTail_builtinR (x:=w) pl.typeIs slot_tuple_getitem.lookup
  (getItem_tuple (j:=j) (Q:=λr s'=>r=w/\EP X ae σ Q r s') pl (by lia) (by lia) (by rw[vH,<-hl];exact h1) (by simpa using d) ⟨rfl,fin⟩) hs
theorem zL:Ha X RF:=by
 intro M O ae s σ H x y v u Q I T U h hs;obtain⟨z,i,c,rfl,rfl,hz,he,q⟩:=h;obtain⟨t,rfl⟩:=T;obtain⟨t',rfl⟩:=U;obtain⟨j,h1,h2,h3,h4,h5⟩:=vk he;have hl:z.cps.toList.length=z.length:=by simp[Str.length]
 rw[hl]at h1 h4 h5;have hn:=nq;exact tail_any (typeIs_str s z t) slot_str_getitem.lookup (getItem_str (c:=c) (by
  have d:decide (i < -(2 ^ 63:Int))=false:=DP (by lia);have e2:decide (i ≥ 2 ^ 63)=false:=DP (by lia);rw[d,e2,Bool.or_false]) (by rw[h1];simpa using h2) ⟨.str ⟨#[c]⟩,H,I.tok _,⟨_,rfl⟩,q⟩) hs
theorem zM (its:LU)(n j:Nat)(u:Value):Obj.mapSeq (·.setIfInBounds j u) { cls:=.type "list",data:=.seq its.toArray n }={ cls:=.type "list",data:=.seq (its.set j u).toArray n }:=by
 simp[Obj.mapSeq]
theorem Inv.lst (I:Inv X ae σ H s)(h:H p=some (.lst xs)):
  ∃(its:LU)(n:Nat),bj xs its/\s.heap.get? p=some { cls:=.type "list",data:=.seq its.toArray n }/\xs.length<=sizeLine:=by
 obtain⟨z,its,n,r,e⟩:=I.hok p _ h;exact⟨its,n,r,e,z⟩
theorem Inv.lstUpd {ae:AO}{σ:St}{H:Hp}{s:Shared}{p:Addr}{xs ys:List V}{its its':LU}{n M:Nat}{f:Obj->Obj}(I:Inv X ae σ H s)(h:H p=some (.lst xs))
  (O:s.heap.get? p=some { cls:=.type "list",data:=.seq its.toArray n }) (hf:f { cls:=.type "list",data:=.seq its.toArray n }={ cls:=.type "list",data:=.seq its'.toArray M }) (r:bj ys its') (hz:ys.length<=sizeLine) (t:Nat):
  Inv X ae σ (upd H p (.lst ys)) { s with heap:=s.heap.update p f,toks:=t }:=by
 have e:(s.heap.update p f).get? p=some { cls:=.type "list",data:=.seq its'.toArray M }:=by
  rw[Heap.get?_update_self f O (by rw[hf]<;>rfl),hf]
 refine I.write (x:=p) (e:=p) (by rw[h];trivial) (.inl rfl) (λb u hb q=>(Heap.get?_update_other _ _ (Ne.symm hb)).trans q) ⟨_,e⟩ ?_;exact⟨hz,its',M,r,e⟩
def Ow:V->V->V->Hp->(Hp->Prop)->Prop:=λo i v H Q=>∃p xs k j,o=.ref p/\i=.int k/\H p=some (.lst xs)/\CC xs.length k=some j/\Q (upd H p (.lst (xs.set j v)))
theorem El:Ob X Ow:=by
 intro ae s σ H o i v d iv u Q I T U c h;obtain⟨p,xs,k,j,rfl,rfl,hp,hj,q⟩:=h;cases T
 obtain⟨t,rfl⟩:=U;obtain⟨its,n,r,M,hz⟩:=I.lst hp;obtain⟨h1,h2,h3,h4⟩:=AK hj;have hl:=r.length;have hn:=nq;have O:Inv X ae σ (upd H p (.lst (xs.set j v))) { s with heap:=s.heap.update p (Obj.mapSeq (·.setIfInBounds j u)) } :=
  I.lstUpd hp M (zM its n j u) (r.set c j) (by rw[length_set];exact hz) s.toks
 by_cases h0:0<=k
 ·have hk:k.toNat=j:=by
   rw[seqIndex_of h0 h4]at h1;exact vK h1
  exact PySem.W.ki_setAt M h0 (by lia) (by rw[vH,<-hl];exact h4) (by rw[hk];exact⟨_,O,q⟩)
 ·have hk:(k+(its.toArray.size:Int)).toNat=j:=by
   rw[seqIndex_neg (by lia) h3]at h1;rw[vH,<-hl];exact vK h1
  exact PySem.W.ki_setBack M (by lia) (by rw[vH,<-hl];exact h3) (by lia) (by rw[hk];exact⟨_,O,q⟩)
theorem vq (lo hi:OI)(n:Nat):(sliceBounds lo hi none n).1=((HT.eG n 0 lo:Nat):Int)/\(sliceBounds lo hi none n).2.1=((HT.eG n n hi:Nat):Int)/\(sliceBounds lo hi none n).2.2=1:=by
 refine⟨?_,?_,rfl⟩
 ·cases lo with
  |none=>simp[sliceBounds,HT.eG]
  |some i=>
   simp only[sliceBounds,HT.eG,getD_none,show(1:Int) > 0 by decide,if_true];by_cases h:i<0
   ·simp only[h,if_true]<;>lia
   ·simp only[h,if_false]<;>lia
 ·cases hi with
  |none=>simp[sliceBounds,HT.eG]
  |some i=>
   simp only[sliceBounds,HT.eG,getD_none,show(1:Int) > 0 by decide,if_true];by_cases h:i<0
   ·simp only[h,if_true]<;>lia
   ·simp only[h,if_false]<;>lia
theorem sR (its:LU)(lo hi:OI):slicePick its.toArray lo hi none=((its.drop (HT.eG its.length 0 lo)).take (HT.eG its.length its.length hi - HT.eG its.length 0 lo)).toArray:=by
 obtain⟨h1,h2,h3⟩:=vq lo hi its.toArray.size;unfold slicePick;rw[h1,h2,h3];simp only[sliceRange_one,pick_run,vH]<;>rfl
def RG (K:Frag):V->OI->OI->Hp->VK->Prop:=λx lo hi H Q=>∃a xs,x=.ref a/\fx K H a xs/\∀p,H p=none->Q (.ref p) (upd H p (.lst (sQ xs lo hi)))
theorem HE:DV X (RG X.K):=by
 intro ae s σ H x v vl c lo hi sl Q I T hs pl U h;obtain⟨a,xs,rfl,hx,q⟩:=h;cases T
 obtain⟨its,r,O,hz⟩:=I.list hx;have M:=r.length;refine⟨"list",_,slot_list_getitem.lookup,O.isList.typeIs,?_⟩;refine wpAny_getItem_list_slice O.isList hs pl U .none (by simp) ?_ (by rw[vH]<;>lia)
 rw[sR,<-M];refine⟨.ref s.heap.objs.size,_,I.laid (t':=s.toks) (o:=.lst (sQ xs lo hi)) (λb ob q=>vZ _ q) (vT _) ?_,rfl,q _ (I.hok.fresh (vT _))⟩;exact⟨vR (oj xs lo hi) hz,_,0,(r.drop (HT.eG xs.length 0 lo)).take (HT.eG xs.length xs.length hi - HT.eG xs.length 0 lo),vY _ rfl⟩
noncomputable def l8:V->Bool
 |.non=>true
 |.bl _=>true
 |.int _=>true
 |.str _=>true
 |_=>false
def Hb:V->V->Bool
 |.non,.non=>true
 |.bl a,.bl b=>a == b
 |.bl a,.int b=>(if a then 1 else 0) == b
 |.int a,.bl b=>a == (if b then 1 else 0)
 |.int a,.int b=>a == b
 |.str a,.str b=>a == b
 |_,_=>false
theorem L3 (O:aZ y u)(M:aZ x v)(U:l8 y=true)(T:l8 x=true):SeqAt.EqAt A s u v (Hb y x):=by
 cases y with
 |non=>
  cases O
  cases x with
  |non=>cases M;exact SeqAt.EqAt.same _
  |bl b=>cases M;exact SeqAt.EqAt.none_bool b
  |int b=>obtain⟨t,rfl⟩:=M;exact SeqAt.EqAt.none_int b t
  |str b=>obtain⟨t,rfl⟩:=M;exact SeqAt.EqAt.none_str b t
  |_=>exact absurd (show false=true from T) uX
 |bl a=>
  cases O
  cases x with
  |non=>cases M;exact SeqAt.EqAt.bool_none a
  |bl b=>cases M;exact SeqAt.EqAt.bool_bool a b
  |int b=>obtain⟨t,rfl⟩:=M;exact SeqAt.EqAt.bool_int a b t
  |str b=>obtain⟨t,rfl⟩:=M;exact SeqAt.EqAt.bool_str a b t
  |_=>exact absurd (show false=true from T) uX
 |int a=>
  obtain⟨t',rfl⟩:=O;cases x with
  |non=>cases M;exact SeqAt.EqAt.int_none a t'
  |bl b=>cases M;exact SeqAt.EqAt.int_bool a t' b
  |int b=>obtain⟨t,rfl⟩:=M;exact SeqAt.EqAt.int_int a t' b t
  |str b=>obtain⟨t,rfl⟩:=M;exact SeqAt.EqAt.int_str a t' b t
  |_=>exact absurd (show false=true from T) uX
 |str a=>
  obtain⟨t',rfl⟩:=O;cases x with
  |non=>cases M;exact SeqAt.EqAt.str_none a t'
  |bl b=>cases M;exact SeqAt.EqAt.str_bool a t' b
  |int b=>obtain⟨t,rfl⟩:=M;exact SeqAt.EqAt.str_int a t' b t
  |str b=>obtain⟨t,rfl⟩:=M;exact SeqAt.EqAt.str_str a t' b t
  |_=>exact absurd (show false=true from T) uX
 |_=>exact absurd (show false=true from U) uX
def zN (x:V)(u:Value):Bool:=match u with
 |.none=>Hb .non x
 |.bool b=>Hb (.bl b) x
 |.int i _=>Hb (.int i) x
 |.str z _=>Hb (.str z) x
 |_=>false
theorem Em (r:aZ y u)(f:l8 y=true):zN x u=Hb y x:=by
 cases y with
 |non=>cases r;rfl
 |bl b=>cases r;rfl
 |int i=>obtain⟨t,rfl⟩:=r;rfl
 |str z=>obtain⟨t,rfl⟩:=r;rfl
 |_=>exact absurd (show false=true from f) uX
theorem mo:∀ {xs:List V}{us:LU},bj xs us->xs.all l8=true->us.any (zN x)=xs.any λy=>Hb y x
 |_,_,.nil,_=>rfl
 |y::xs,u::us,.cons r t,f=>by
  rw[all_cons,vC]at f;rw[any_cons,any_cons,Em r f.1,mo t f.2]
theorem ki (M:aZ x v)(O:l8 x=true):∀ {xs:List V}{us:LU},bj xs us->xs.all l8=true->∀u∈us,SeqAt.EqAt A s u v (zN x u)
 |_,_,.nil,_=>λu hu=>by cases hu
 |y::xs,u::us,.cons r t,f=>λT hu=>by
  rw[all_cons,vC]at f;rcases vP hu with rfl|hu
  ·rw[Em r f.1];exact L3 r M f.1 O
  ·exact ki M O t f.2 T hu
noncomputable def QE (x:V)(xs:List V):Bool:=xs.any λy=>Hb y x
def Ui (K:Frag)(M:Bool):R2:=λx y H Q=>∃p xs,y=.ref p/\(fx K H p xs\/ji K H p xs)/\l8 x=true/\xs.all l8=true/\Q (.bl (if M then !QE x xs else QE x xs)) H
theorem CD:dN X (compareOp .In) (Ui X.K false):=by
 intro ae s σ H x y v u Q I M T h;obtain⟨p,xs,rfl,hq,O,fs,q⟩:=h;cases T
 rcases hq with hq|hq
 ·obtain⟨its,r,pl,hz⟩:=I.list hq;refine SeqAt.in_listAt (zN x) pl.isList (λw hw=>ki M O r fs w (by simpa using hw)) ⟨.bl _,H,I,rfl,?_⟩;rw[show its.toArray.any (zN x)=its.any (zN x) by simp,mo r fs];exact q
 ·obtain⟨its,r,pl,hz⟩:=I.tuple hq;refine SeqAt.in_tupleAt (zN x) pl (λw hw=>ki M O r fs w (by simpa using hw)) ⟨.bl _,H,I,rfl,?_⟩;rw[show its.toArray.any (zN x)=its.any (zN x) by simp,mo r fs];exact q
theorem vt:dN X (compareOp .NotIn) (Ui X.K true):=by
 intro ae s σ H x y v u Q I M T h;obtain⟨p,xs,rfl,hq,O,fs,q⟩:=h;cases T
 rcases hq with hq|hq
 ·obtain⟨its,r,pl,hz⟩:=I.list hq;refine SeqAt.notIn_listAt (zN x) pl.isList (λw hw=>ki M O r fs w (by simpa using hw)) ⟨.bl _,H,I,rfl,?_⟩;rw[show its.toArray.any (zN x)=its.any (zN x) by simp,mo r fs];exact q
 ·obtain⟨its,r,pl,hz⟩:=I.tuple hq;refine SeqAt.notIn_tupleAt (zN x) pl (λw hw=>ki M O r fs w (by simpa using hw)) ⟨.bl _,H,I,rfl,?_⟩;rw[show its.toArray.any (zN x)=its.any (zN x) by simp,mo r fs];exact q
theorem vv:ci X (.builtin "len") (λxs H Q=>∃p ys,xs=[.ref p]/\(fx X.K H p ys\/ji X.K H p ys)/\Q (.int ys.length) H):=by
 intro ae s σ H xs us Q I r h;obtain⟨p,ys,rfl,hq,q⟩:=h;obtain⟨u,rfl,T⟩:=hG r;cases T
 have hn:=nq;rcases hq with hq|hq
 ·obtain⟨its,O,pl,hz⟩:=I.list hq;have M:=O.length;exact Calls.call_len_list pl.isList (by simp only[vH]<;>lia) ⟨.int ys.length,H,I.tok _,⟨s.toks+1,by rw[vH,M]⟩,q⟩
 ·obtain⟨its,O,pl,hz⟩:=I.tuple hq;have M:=O.length;exact len_tuple pl (by simp only[vH]<;>lia) ⟨.int ys.length,H,I.tok _,⟨s.toks+1,by rw[vH,M]⟩,q⟩
theorem vw:ci X (.builtin "len") (λxs H Q=>∃z,xs=[.str z]/\z.length<=sizeLine/\Q (.int z.length) H):=by
 intro ae s σ H xs us Q I r h;obtain⟨z,rfl,hz,q⟩:=h;obtain⟨u,rfl,t,rfl⟩:=hG r;have hn:=nq;exact len_str (by lia) ⟨.int z.length,H,I.tok _,⟨_,rfl⟩,q⟩
theorem ci.or (h:ci X f r)(h':ci X f M):ci X f (λxs H Q=>r xs H Q\/M xs H Q):=by
 intro ae s σ H xs us Q I rs q;rcases q with q|q
 ·exact h ae s σ H xs us Q I rs q
 ·exact h' ae s σ H xs us Q I rs q
theorem vx:ci X (.type "list") (λxs H Q=>∃p ys,xs=[.ref p]/\(fx X.K H p ys\/ji X.K H p ys)/\∀l,H l=none->Q (.ref l) (upd H l (.lst ys))):=by
 intro ae s σ H xs us Q I r h;obtain⟨p,ys,rfl,hq,q⟩:=h;obtain⟨u,rfl,c⟩:=hG r;cases c
 have fin:∀(its:LU),bj ys its->ys.length<=sizeLine->∀(h':Heap)(M:Nat),(∀b o',s.heap.get? b=some o'->h'.get? b=some o') ->
   h'.get? s.heap.objs.size=some { cls:=.type "list",dict:=none,data:=.seq its.toArray M,slots:=#[] }->EP X ae σ Q (.ref s.heap.objs.size) { s with heap:=h' }:=λits O hz h' M kp e=>
  ⟨.ref s.heap.objs.size,_,I.laid (t':=s.toks) kp (vT _) (show c7 X.prog X.w _ h' _ (.lst ys)from ⟨hz,its,M,O,e⟩),rfl,q _ (I.hok.fresh (vT _))⟩
 rcases hq with hq|hq
 ·obtain⟨its,O,pl,hz⟩:=I.list hq;have T:=O.length;obtain⟨o,U,hc,n,hd⟩:=pl.isList;exact call_list_seq p (.inl rfl) U hc hd (λh' M kp e=>fin its O hz h' M kp e) (by simp only[vH]<;>lia)
 ·obtain⟨its,O,pl,hz⟩:=I.tuple hq;have T:=O.length;obtain⟨o,U,hc,n,hd⟩:=pl;exact call_list_seq p (.inr rfl) U hc hd (λh' M kp e=>fin its O hz h' M kp e) (by simp only[vH]<;>lia)
theorem sU:ci X (.type "tuple") (λxs H Q=>∃p ys,xs=[.ref p]/\((fx X.K H p ys/\∀l,H l=none->Q (.ref l) (upd H l (.tup ys)))\/(ji X.K H p ys/\Q (.ref p) H))):=by
 intro ae s σ H xs us Q I r h;obtain⟨p,ys,rfl,h⟩:=h;obtain⟨u,rfl,T⟩:=hG r;cases T
 rcases h with⟨hq,q⟩|⟨hq,q⟩
 ·obtain⟨its,M,pl,hz⟩:=I.list hq;have O:=M.length;refine call_tuple_list pl.isList (λh' kp=>?_) (by simp only[vH]<;>lia)
  have I1:Inv X ae σ H { s with heap:=h' }:=I.kept (t':=s.toks) kp;have I2:Inv X ae σ (upd H h'.objs.size (.tup ys)) { s with heap:=h'.push { cls:=.type "tuple",data:=.seq its.toArray } } :=
   I1.laid (t':=s.toks) (λb o e=>vZ _ e) (vT _) (show c7 X.prog X.w _ _ _ (.tup ys)from ⟨hz,its,M,IsTup.new _ _⟩)
  exact⟨.ref h'.objs.size,_,I2,rfl,q _ (I1.hok.fresh (vT _))⟩
 ·obtain⟨its,M,pl,hz⟩:=I.tuple hq;exact call_tuple_same pl ⟨.ref p,H,I,rfl,q⟩
def Uj (K:Frag)(T:String)(x:V)(H:Hp):Prop:=match x with
 |.str _=>T = "str"
 |.int _=>T = "int"
 |.ref p=>(T = "list"/\∃xs,fx K H p xs)\/(T = "tuple"/\∃o,K.lookup p=some o/\o.cls=.type "tuple"/\o.dict=none) \/
   (T = "dict"/\((∃aL ob,H p=some (.dK aL ob))\/∃aL,H p=some (.dT aL)))\/(T = "set"/\∃S n,H p=some (.set S n))
 |_=>False
theorem zO (I:Inv X ae σ H s)(r:aZ x v)(ty:Uj X.K T x H):
  s.TypeIs v T/\∀a,v=.ref a->∃ob,s.heap.get? a=some ob/\ob.dict=none:=by
 cases x with
 |str z=>
  obtain⟨t,rfl⟩:=r;cases (show T = "str" from ty)
  exact⟨typeIs_str s z t,λ_ e=>nomatch e⟩
 |int i=>
  obtain⟨t,rfl⟩:=r;cases (show T = "int" from ty)
  exact⟨typeIs_int s i t,λ_ e=>nomatch e⟩
 |ref p=>
  cases r
  rcases ty with⟨rfl,xs,hq⟩|⟨rfl,o,hk,hc,hd⟩|⟨rfl,hk⟩|⟨rfl,S,n,hk⟩
  ·obtain⟨its,_,pl,_⟩:=I.list hq;refine⟨pl.isList.typeIs,λa e=>?_⟩;cases e
   obtain⟨o,n,e,c,hd,_⟩:=pl;exact⟨o,e,hd⟩
  ·refine⟨⟨o,I.kIn p o hk,hc⟩,λa e=>?_⟩;cases e
   exact⟨o,I.kIn _ o hk,hd⟩
  ·have z:∃o,s.heap.get? p=some o/\o.ExactDict:=by
    rcases hk with⟨aL,M,hk⟩|⟨aL,hk⟩
    ·obtain⟨_,_,_,_,_,o,_,_,e,ex,_⟩:=I.hok p _ hk;exact⟨o,e,ex⟩
    ·obtain⟨_,_,_,_,o,_,_,e,ex,_⟩:=I.hok p _ hk;exact⟨o,e,ex⟩
   obtain⟨o,e,ex⟩:=z;refine⟨⟨o,e,ex.1⟩,λa e2=>?_⟩;cases e2
   exact⟨o,e,ex.2.1⟩
  ·obtain⟨o,_,_,_,e,ex,_⟩:=I.hok p _ hk;refine⟨⟨o,e,ex.1⟩,λa e2=>?_⟩;cases e2
   exact⟨o,e,ex.2.1⟩
 |_=>exact False.elim ty
def Wh (K:Frag)(T:String)(r:V->List V->Hp->VK->Prop)(to:TE)(t:TA):TE:=λσ H Q=>to σ H λx M=>Uj K T x M/\t σ M λxs H2=>r x xs H2 Q
variable {o e:Expr}{es:QD}{to:TE}{t:TA}{name:Str}{dI cL:Pos}{T id:String}{r:V->List V->Hp->VK->Prop}
theorem AL (f:PlainAttrs T)(slot:Slot T name id)(g:typeOf (.builtin id)=pure (.type "method_descriptor"))(hm:HC X id r)(i:PE X o to)(ha:PA X (e::es) t)
  (O:attributeBase o name X.env (eval o X.env)=eval o X.env:=by rfl)
  (j:((backTo cL (starEach (e::es) X.env)).all (λx=>!x.1) && (backToKw cL (keywordEach [] X.env)).all (λx=>x.1.isSome)
   && decide ((e::es).length+([]:List Keyword).length+(if([]:List Keyword).isEmpty then 0 else 1)<30))=true:=by rfl)
  (U:(dI.endLine == cL.line)=true:=by rfl) (hs:starEach (e::es) X.env=(false,eval e X.env)::starEach es X.env:=by rfl) (M:(backTo cL (starEach es X.env)).any (·.1)=false:=by rfl):
  PE X (.Call (.Attribute o name dI) (e::es) [] cL) (Wh X.K T r to t):=by
 intro ae s σ H Q I h;refine wpAny_Call_method_late O j U rfl (cA (i ae s σ H _ I h) λv s1 ⟨x,k,I1,c,ty,l⟩=>?_);obtain⟨h1,h2⟩:=zO I1 c ty;refine⟨T,id,f,slot,g,h1,h2,?_⟩;have d:=ha cL ae s1 σ k _ I1 l;rw[hs]at d |-;refine Calls.callWith_builtin (by show(false || (backTo cL (starEach es X.env)).any (·.1))=false;rw[M]<;>rfl) (Calls.evalArgs_plain ?_)
 exact cA d λus s2 ⟨vs,H2,I2,m,n⟩=>hm ae s2 σ H2 x vs v us Q I2 c m n
/- xs.append(e),list.index on a module's tuple .. are HC facts of 06m -/
end
def Wi (X:Cx)(id:String)(r:V->List V->Hp->VK->Prop):Prop :=
 ∀(ae:AO)(s:Shared)(σ:St)(H:Hp)(x:V)(xs:List V)(v:Value)(us:LU)(Q:VK),Inv X ae σ H s->aZ x v->bj xs us->r x xs H Q ->
  wq X (call (.builtin id) (v::us)) (EP X ae σ Q) X.xe s
theorem bj.one {x:V}{us:LU}(h:bj [x] us):∃u,us=[u]/\aZ x u:=by
 cases h with
 |cons r h=>cases h;exact⟨_,rfl,r⟩
theorem bj.two {x y:V}{us:LU}(h:bj [x,y] us):∃u v,us=[u,v]/\aZ x u/\aZ y v:=by
 cases h with
 |cons r h=>
  obtain⟨v,rfl,q⟩:=bj.one h;exact⟨_,_,rfl,r,q⟩
theorem bj.rep (h:bj xs us):∀k:Nat,bj (List.replicate k xs).flatten (List.replicate k us).flatten
 |0=>.nil
 |k+1=>by
  rw[replicate_succ,replicate_succ,flatten_cons,flatten_cons];exact bj.append h (bj.rep h k)
theorem tH (its:LU):∀(k:Nat)(M:LU),
  List.foldl (λO T=>O++T) M.toArray (List.replicate k its.toArray)=(M++(List.replicate k its).flatten).toArray
 |0,M=>by simp
 |k+1,M=>by
  have e:M.toArray++its.toArray=(M++its).toArray:=by simp
  have e2:(M++its)++(List.replicate k its).flatten=M++(List.replicate (k+1) its).flatten:=by
   rw[replicate_succ,flatten_cons,append_assoc]
  rw[<-e2,<-tH its k (M++its),<-e,replicate_succ,foldl_cons]
section
variable {X:Cx}{ae:AO}{σ:St}{H:Hp}{s:Shared}{l b:Addr}{xs ys zs:List V}
theorem Inv.lset {its its':LU}{n:Nat}{f:AV->AV}{t':Nat}(I:Inv X ae σ H s)(M:H l=some (.lst xs))
  (e:s.heap.get? l=some { cls:=.type "list",data:=.seq its.toArray n }) (hf:f its.toArray=its'.toArray) (hv:bj ys its') (hz:ys.length<=sizeLine):
  Inv X ae σ (upd H l (.lst ys)) { s with heap:=s.heap.update l (Obj.mapSeq f),toks:=t' }:=by
 have q:=PySem.IsL.update e f;rw[hf]at q;refine I.write (x:=l) (e:=l) (by rw[M];exact trivial) (.inl rfl) (λb' u hb hu=>(Heap.get?_update_other s.heap (Obj.mapSeq f) (Ne.symm hb)).trans hu) ⟨_,q⟩ ?_;exact⟨hz,its',_,hv,q⟩
theorem Inv.lnew (I:Inv X ae σ H s)(hv:bj ys its)(hz:ys.length<=sizeLine):
  Inv X ae σ (upd H s.heap.objs.size (.lst ys)) { s with heap:=s.heap.push { cls:=.type "list",data:=.seq its.toArray },toks:=t' } :=
 I.laid (λ_ _ q=>vZ _ q) (vT _) ⟨hz,its,0,hv,vY _ rfl⟩
theorem Inv.fresh (I:Inv X ae σ H s):H s.heap.objs.size=none:=I.hok.fresh (vT _)
theorem Inv.lstM (I:Inv X ae σ H s)(M:H l=some (.lst xs)):xs.length<=sizeLine/\∃(its:LU)(n:Nat),bj xs its/\xs.length=its.length/\s.heap.get? l=some { cls:=.type "list",data:=.seq its.toArray n }:=by
 obtain⟨z,its,n,r,e⟩:=I.hok l _ M;exact⟨z,its,n,r,r.length,e⟩
theorem En (h:n<=sizeLine):Builtin.List.listTooLong n=false:=by
 unfold Builtin.List.listTooLong;exact DP (by lia)
end
section
variable {X:Cx}
def AM:V->List V->Hp->VK->Prop:=λx vs H Q=>∃l xs y,x=.ref l/\vs=[y]/\H l=some (.lst xs)/\xs.length<sizeLine/\Q .non (upd H l (.lst (xs++[y])))
theorem nv:Wi X "list.append" AM:=by
 intro ae s σ H x vs v us Q I O T h;obtain⟨l,xs,y,rfl,rfl,M,hz,q⟩:=h;cases O
 obtain⟨u,rfl,ru⟩:=T.one;obtain⟨z,its,n,r,hl,e⟩:=I.lstM M;refine call_meets F.slot_list_append ⟨_,e,rfl⟩ F.entry_list_append (F.args_list_append_2 _ _) (PySem.list_append l its.toArray n u (by rw[vH];lia)) ⟨e,?_⟩;refine⟨.non,_,I.lset (its':=its++[u]) M e (by simp) (r.append (.cons ru .nil)) ?_,rfl,q⟩;rw[uZ,length_singleton];lia
def RH:R2:=λx y H Q=>∃l k xs,x=.ref l/\y=.int k/\H l=some (.lst xs)/\-(2 ^ 63)<=k/\k<2 ^ 63/\xs.length*k.toNat<=sizeLine /\
 ∀p,H p=none->Q (.ref p) (upd H p (.lst (List.replicate k.toNat xs).flatten))
theorem HF {α:Type}(xs:List α)(k:Nat):(List.replicate k xs).flatten.length=k*xs.length:=by
 induction k with
 |zero=>simp
 |succ k M=>rw[replicate_succ,flatten_cons,uZ,M,Nat.succ_mul,Nat.add_comm]
theorem L4:dN X (binaryOp .Mult) RH:=by
 intro ae s σ H x y v u Q I d f h;obtain⟨l,k,xs,rfl,rfl,g,h1,h2,hz,q⟩:=h;cases d
 obtain⟨t,rfl⟩:=f;obtain⟨z,its,n,r,hl,e⟩:=I.lstM g;have O:its.toArray.size*k.toNat<=sizeLine:=by rw[vH,<-hl];exact hz
 have i:¬its.toArray.size*k.toNat > (2 ^ 63 - 1) / 8:=by
  have:(sizeLine:Nat)<=(2 ^ 63 - 1) / 8:=by decide
  lia
 have j:¬(!Builtin.List.listFitsIndex k)=true:=by
  rw[fitsIndex_both h1 h2];exact uX
 have M:¬Builtin.List.listTooLong (its.toArray.size*k.toNat)=true:=by
  rw[En O];exact uX
 have o:List.foldl (λb c=>b++c) #[] (List.replicate (if its.toArray.isEmpty=true then 0 else k.toNat) its.toArray)=(List.replicate k.toNat its).flatten.toArray:=by
  have f0:∀m:Nat,List.foldl (λb c=>b++c) #[] (List.replicate m its.toArray)=(List.replicate m its).flatten.toArray:=λm=>by
   have:=tH its m [];rw[nil_append]at this;exact this
  rw[f0];cases its with
  |nil=>simp
  |cons a p=>rw[if_neg (by simp)]
 refine wpAny_binaryOp_repeat_ref (T:="list") (U:="int") (by decide) ⟨_,e,rfl⟩ (λs'=>typeIs_int s' k t) noFill_list_mul F.fills_int_mul F.slot_int_rmul repeat_list F.slot_int_index.lookup
  (call_meets F.slot_int_rmul (typeIs_int s k t) F.entry_int_rmul (F.args_int_rmul_2 _ _) (int___rmul___int_list k t l its.toArray n)
   ⟨e,rfl,⟨_,e,rfl⟩,call_meets F.slot_list_mul ⟨_,e,rfl⟩ F.entry_list_mul (F.args_list_mul_2 _ _) (AutoListH.list___mul___list_int_3 l its.toArray n k t j i M) ⟨e,?_⟩⟩)
 rw[o];exact⟨.ref _,_,I.lnew (t':=s.toks) (r.rep k.toNat) (by rw[HF,Nat.mul_comm];exact hz),rfl,q _ I.fresh⟩
end
end L2
namespace Att
open PySem PySem.W PySem.Calls PyProof.Rows
theorem pf:∀(ns:LI)(vs:LU),WellAll P h vs (ns.map WData.int)->IntsAre vs ns:=by
 intro ns;induction ns with
 |nil=>
  intro vs w;rw[map_nil]at w;cases w
  exact .nil
 |cons n ns M=>
  intro vs w;rw[uY]at w;cases w with
  |cons a b=>
   cases a
   exact .cons _ _ (M _ b)
theorem CF {l:OpenLaw}{n:Nat}(hn:l.most=some n){P:Params}{h:Heap}{args:List WData}{vals:LU}
  (M:l.row.toRowW.claim.pre args=true) (U:WellAll P h vals args):
  ∃a vs ns,vals=[Value.ref a]/\args=[WData.list (ns.map WData.int)]/\h.get? a=some { cls:=.type "list",data:=.seq vs.toArray }/\IntsAre vs ns/\ns.length<=n:=by
 have b:WShape.hasAll [] args [.list .int]=true:=(pre_splitW M).1;have hc:l.pre.holds [] { args:=args }=true:=(pre_splitW M).2;obtain⟨d,r,rfl,h1,h2⟩:=hasAllW_cons b;obtain rfl:=hasAllW_nil h2;obtain⟨xs,rfl,h3⟩:=hasW_list h1;obtain⟨ns,rfl⟩:=items_int h3;have O:ns.length<=n:=by
  unfold OpenLaw.pre at hc;have h4:(WTm.not (.lt (.lit (.int (n:Int))) (.len (.arg 0)))).holds [] { args:=[.list (ns.map .int)] }=true:=by
   have h4:=(holds_andW hc).1;rw[hn]at h4;exact h4
  have h5:=condW_of h4 (w_not (w_lt w_lit (w_len_list (w_arg rfl))));rw[vI]at h5;refine Nat.le_of_not_lt λq=>?_;have c:(n:Int)<((ns.length:Nat):Int):=by lia
  first
   | (rw[xq c]at h5;exact absurd h5 (by decide))
   | (simp at h5;lia)
 cases U with
 |cons e f=>
  cases f
  cases e with
  |list g T=>exact⟨_,_,ns,rfl,rfl,g,pf ns _ T,O⟩
theorem CG (l:OpenLaw)(args:List WData):l.row.toRowW.claim.post args (.bool true) args=true :=
 postW_of (r:=l.row.toRowW) (X:=(true == true))
  (show WShape.has [] (.bool true) .bool=true by first|rfl|decide|simp[WShape.has,WShape.arms,WShape.armsAll])
  (show(WTm.eq .res (.lit (.bool true))).value [] { args:=args,res:=some (.bool true),after:=args }=some (.bool (true == true))from w_eq_bool (w_res rfl) w_lit) rfl
section
variable {prog:Program}{w:World}{A:Around}{E:QV}{s:Shared}{K:Frag}
end
end Att
namespace L2
open PySem PySem.Spec PyProof.Rows
theorem jk:∀ {vs:LU}{ns:LI},IntsAre vs ns->bj (ns.map V.int) vs
 |_,_,.nil=>.nil
 |_,_,.cons n t h=>.cons ⟨t,rfl⟩ (jk h)
noncomputable def fK (s:Stmt):Arguments:=match s with
 |.FunctionDef _ a _ _ _ _ _ _ _ _=>a
 |_=>{ posonlyargs:=[],args:=[],vararg:=none,kwonlyargs:=[],kw_defaults:=[],kwarg:=none,defaults:=[] }
noncomputable def cB (s:Stmt):List Stmt:=match s with
 |.FunctionDef _ _ b _ _ _ _ _ _ _=>b
 |_=>[]
noncomputable def aP (s:Stmt):Scope:=match s with
 |.FunctionDef _ _ _ _ _ _ sc _ _ _=>sc
 |_=>{ kind:=.function,names:=[],isGenerator:=false,isCoroutine:=false }
abbrev xr:Kg:=λ_ _ _ _ _ _=>False
abbrev E0:XK:=λ_ _ _=>False
theorem Eo:zI xr X E0:=λ_ _ _ _ _ _ _ h=>h.elim
structure MO (K:Frag)(x qual:Str)(st:Stmt)(f:Addr)(fd:FuncData):Prop where
 ex:∃(oc:Value)(od:Option Addr)(kV doc pm:Value)(an:Option Addr)(dG ct:Value)(oi:Array (Option Value)),
  fd=fnOf x qual (fK st) (cB st) (aP st) .none kV doc pm an dG ct/\K.lookup f=some ⟨oc,od,.func fd,oi⟩/\PySem.W.codeIn K dG qual=true
 kp:PySem.W.keepIn K (.ref f)=true
section
variable {P:Program}{w:World}{K:Frag}{mg:SV}{base:Heap}
theorem MO.ok {x qual:Str}{st:Stmt}{f:Addr}{fd:FuncData}{N ps:LS}{k:Nat}{sp:Sp}(F:MO K x qual st f fd)(S:FnScope N ps (aP st))(len:∀vs H Q E,sp vs H Q E->vs.length=ps.length)
  (M:∀(dG:Value)(A:Around)(outer:List Env)(s:Shared)(H:Hp)(vs:List V)(Q:VK)(E:XK),eQ k (A.deeper (envOfC qual (aP st) s.heap.objs.size f dG))->sp vs H Q E ->
   ∃t,sP (nu xr P w K mg base N qual (aP st) f dG A outer s H E).nox (cB st) t/\t { nx:=λ_ H'=>Q .non H',rt:=Q } (iJ N vs) H):sM P w K mg base xr (k+1) f fd ps sp:=by
 obtain⟨oc,od,kV,doc,pm,an,dG,ct,oi,rfl,U,O⟩:=F.ex;refine AI U O S len λA outer s H vs Q E hr T=>?_;obtain⟨t,h,q⟩:=M dG A outer s H vs Q E hr T;exact⟨t,h.nox,q⟩
theorem MO.binds {x qual:Str}{st:Stmt}{f:Addr}{fd:FuncData}{ps:LS}(F:MO K x qual st f fd)
  (h:∀(kV doc pm:Value)(an:Option Addr)(dG ct:Value)(us:LU),us.length=ps.length->bindArgs (fnOf x qual (fK st) (cB st) (aP st) .none kV doc pm an dG ct) ⟨us,[]⟩=pure (ps.zip us)):pR K fd ps []:=by
 obtain⟨oc,od,kV,doc,pm,an,dG,ct,oi,rfl,O,M⟩:=F.ex;exact .all (h kV doc pm an dG ct)
theorem L5 {x qual:Str}{st:Stmt}{f:Addr}{oc:Value}{od an:Option Addr}{oi:Array (Option Value)}{kV doc pm dG ct:Value}(l:K.lookup f=some ⟨oc,od,.func (fnOf x qual (fK st) (cB st) (aP st) .none kV doc pm an dG ct),oi⟩)
  (c:PySem.W.codeIn K dG qual=true) (k:PySem.W.keepIn K (.ref f)=true):MO K x qual st f (fnOf x qual (fK st) (cB st) (aP st) .none kV doc pm an dG ct):=⟨⟨oc,od,kV,doc,pm,an,dG,ct,oi,rfl,l,c⟩,k⟩
end
def aT (H H':Hp):Prop:=∀b o,H b=some o->H' b=some o
theorem aT.refl (H:Hp):aT H H:=λ_ _ h=>h
theorem aT.trans (a:aT H M)(b:aT M H2):aT H H2:=λc o h=>b c o (a c o h)
theorem aT.free (e:aT H H')(h:H' l=Option.none):H l=Option.none:=by
 cases q:H l with
 |none=>rfl
 |some o=>
  rw[e l o q]at h;cases h
theorem aT.seq {K:Frag}{H H':Hp}{a:Addr}{xs:List V}(e:aT H H')(h:fx K H a xs):fx K H' a xs:=by
 rcases h with (h|⟨o,h⟩)|h
 ·exact .inl (.inl (e _ _ h))
 ·exact .inl (.inr ⟨o,e _ _ h⟩)
 ·exact .inr h
section
variable {κ:Type}[DecidableEq κ]
noncomputable def fL (aL:List (κ×V))(k:κ):Option V:=(aL.find? λkv=>decide (kv.1=k)).map (·.2)
def jl (aL:List (κ×V))(k:κ)(v:V):List (κ×V) :=
 if(aL.any λkv=>decide (kv.1=k))=true then aL.map (λkv=>if kv.1=k then (kv.1,v)else kv)else aL++[(k,v)]
theorem dC {p:κ×V}{r:List (κ×V)}{k:κ}(e:p.1=k):fL (p::r) k=some p.2:=by simp[fL,find?_cons,e]
theorem dD {p:κ×V}{r:List (κ×V)}{k:κ}(e:¬p.1=k):fL (p::r) k=fL r k:=by simp[fL,find?_cons,e]
theorem mq (k:κ):∀aL:List (κ×V),(aL.any λkv=>decide (kv.1=k))=(fL aL k).isSome
 |[]=>rfl
 |p::r=>by
  rw[any_cons];by_cases e:p.1=k
  ·simp only[dC e,xq e,Bool.true_or,Option.isSome_some]
  ·rw[dD e,DP e,Bool.false_or];exact mq k r
theorem xG (k j:κ)(y:V):∀aL:List (κ×V),fL (aL.map λkv=>if kv.1=k then (kv.1,y)else kv) j=(fL aL j).map λx=>if j=k then y else x
 |[]=>rfl
 |p::r=>by
  have M:=xG k j y r;rw[uY];by_cases h:p.1=k
  ·rw[if_pos h];by_cases e:p.1=j
   ·rw[dC (p:=(p.1,y)) e,dC e,map_some,if_pos (e.symm.trans h)]
   ·rw[dD (p:=(p.1,y)) e,dD e,M]
  ·rw[if_neg h];by_cases e:p.1=j
   ·rw[dC (p:=p) e,dC e,map_some,if_neg (λz=>h (e.trans z))]
   ·rw[dD (p:=p) e,dD e,M]
theorem tI (k j:κ)(y:V):∀aL:List (κ×V),fL aL k=none->fL (aL++[(k,y)]) j=if j=k then some y else fL aL j
 |[],_=>by
  by_cases e:k=j
  ·rw[if_pos e.symm];exact dC (p:=(k,y)) e
  ·rw[if_neg (λz=>e z.symm)];exact dD (p:=(k,y)) e
 |p::r,hn=>by
  rw[cons_append];have hk:¬p.1=k:=λz=>by rw[dC z]at hn;cases hn
  rw[dD hk]at hn;have M:=tI k j y r hn;by_cases e:p.1=j
  ·rw[dC e,dC e,if_neg (λz=>hk (e.trans z))]
  ·rw[dD e,dD e,M]
theorem xH (aL:List (κ×V))(k j:κ)(y:V):fL (jl aL k y) j=if j=k then some y else fL aL j:=by
 unfold jl;by_cases a:(aL.any λkv=>decide (kv.1=k))=true
 ·rw[if_pos a,xG];rw[mq]at a;by_cases e:j=k
  ·obtain⟨x,hx⟩:=uU a;rw[if_pos e,e,hx,map_some,if_pos rfl]
  ·rw[if_neg e];cases fL aL j with
   |none=>rfl
   |some x=>rw[map_some,if_neg e]
 ·rw[if_neg a];refine tI k j y aL ?_;rw[mq]at a;cases q:fL aL k with
  |none=>rfl
  |some x=>rw[q]at a;exact(a rfl).elim
theorem kj (aL:List (κ×V))(k:κ)(v:V):(jl aL k v).length<=aL.length+1:=by
 unfold jl;split
 ·rw[vI];lia
 ·rw[uZ,vE,length_nil];lia
theorem lw.isSome_eq (r:lw o u):o.isSome=u.isSome:=by
 cases o with
 |none=>cases u with
  |none=>rfl
  |some _=>exact(show False from r).elim
 |some _=>cases u with
  |none=>exact(show False from r).elim
  |some _=>rfl
theorem lw.getD (r:lw o u)(M:aZ d d'):aZ (o.getD d) (u.getD d'):=by
 cases o with
 |none=>cases u with
  |none=>exact M
  |some _=>exact(show False from r).elim
 |some _=>cases u with
  |none=>exact(show False from r).elim
  |some _=>exact r
theorem KV.val {aL:List (κ×V)}{vs:List (κ×Value)}(r:KV aL vs)(k:κ):lw (fL aL k) (valueAt vs k):=by
 unfold KV at r;induction r with
 |nil=>exact True.intro
 |@cons p q ps M h t T=>
  obtain⟨h1,h2⟩:=h;by_cases e:p.1=k
  ·have O:q.1=k:=h1.symm.trans e;have b:valueAt (q::M) k=some q.2:=by simp[valueAt,find?_cons,O]
   rw[dC e,b];exact h2
  ·have O:¬q.1=k:=λz=>e (h1.trans z);have b:valueAt (q::M) k=valueAt M k:=by simp[valueAt,find?_cons,O]
   rw[dD e,b];exact T
theorem KV.any (r:KV aL vs)(k:κ):(aL.any λkv=>decide (kv.1=k))=vs.any λkv=>decide (kv.1=k):=by
 unfold KV at r;induction r with
 |nil=>rfl
 |cons h t M=>rw[any_cons,any_cons,M,h.1]
theorem KV.repl (r:KV aL vs)(k:κ)(M:aZ y u):
  KV (aL.map λkv=>if kv.1=k then (kv.1,y)else kv) (vs.map λkv=>if kv.1=k then (kv.1,u)else kv):=by
 unfold KV at r |-;induction r with
 |nil=>exact .nil
 |@cons p q ps T h t O=>
  rw[uY,uY];refine .cons ?_ O;obtain⟨h1,h2⟩:=h;by_cases e:p.1=k
  ·rw[if_pos e,if_pos (h1.symm.trans e)];exact⟨h1,M⟩
  ·rw[if_neg e,if_neg (λz=>e (h1.trans z))];exact⟨h1,h2⟩
theorem KV.put (r:KV aL vs)(k:κ)(M:aZ y u):KV (jl aL k y) (stored vs k u):=by
 unfold jl stored;rw[r.any k];by_cases e:(vs.any λkv=>decide (kv.1=k))=true
 ·rw[if_pos e,if_pos e];exact r.repl k M
 ·rw[if_neg e,if_neg e];exact Paired.snoc r ⟨rfl,M⟩
theorem KV.length (r:KV aL vs):aL.length=vs.length:=Paired.length r
end
theorem pU (r:aZ (kV k) u):(c6 P w).is k u=true:=by
 cases k with
 |inl i=>obtain⟨t,e⟩:=(show ∃t,u=Value.int i t from r);subst e;exact xw P w i t
 |inr x=>obtain⟨t,e⟩:=(show ∃t,u=Value.str x t from r);subst e;exact xx P w x t
theorem tJ:∀ {ks:List dO}{us:LU},bj (ks.map kV) us->ItemsAre (c6 P w) ks us
 |[],_,r=>by rw[map_nil]at r;cases r;exact .nil
 |k::ks,_,r=>by
  rw[uY]at r;cases r with
  |cons h t=>exact .cons (pU h) (tJ t)
abbrev KT (H:Hp):List (List dO×V)->List (List dO×Addr×Value)->Prop:=Paired λp q=>p.1=q.1/\H q.2.1=some (.tup (p.1.map kV))/\aZ p.2 q.2.2
theorem KT.val {H:Hp}{aL:List (List dO×V)}{xs:List (List dO×Addr×Value)}(r:KT H aL xs)(k:List dO):lw (fL aL k) ((atKey xs k).map (·.2)):=by
 induction r with
 |nil=>exact True.intro
 |@cons p q ps M h t T=>
  obtain⟨h1,_,h2⟩:=h;by_cases e:p.1=k
  ·have O:q.1=k:=h1.symm.trans e;have b:atKey (q::M) k=some q.2:=by simp[atKey,find?_cons,O]
   rw[dC e,b];exact h2
  ·have O:¬q.1=k:=λz=>e (h1.trans z);have b:atKey (q::M) k=atKey M k:=by simp[atKey,find?_cons,O]
   rw[dD e,b];exact T
theorem KT.repl (r:KT H aL xs)(k:List dO)(M:aZ y u):
  KT H (aL.map λkv=>if kv.1=k then (kv.1,y)else kv) (xs.map (putAt k u)):=by
 induction r with
 |nil=>exact .nil
 |@cons p q ps T h t O=>
  rw[uY,uY];refine .cons ?_ O;obtain⟨h1,h2,h3⟩:=h;unfold putAt;by_cases e:p.1=k
  ·rw[if_pos e,if_pos (h1.symm.trans e)];exact⟨h1,h2,M⟩
  ·rw[if_neg e,if_neg (λz=>e (h1.trans z))];exact⟨h1,h2,h3⟩
theorem KT.put (r:KT H aL xs)(k:List dO)(hb:H b=some (.tup (k.map kV)))(M:aZ y u):
  KT H (jl aL k y) (storedH xs k b u):=by
 have e:(aL.any λkv=>decide (kv.1=k))=(atKey xs k).isSome:=by
  rw[mq,(r.val k).isSome_eq,isSome_map]
 unfold jl storedH;rw[e];by_cases q:(atKey xs k).isSome=true
 ·rw[if_pos q,if_pos q];exact r.repl k M
 ·rw[if_neg q,if_neg q];exact Paired.snoc r ⟨rfl,hb,M⟩
theorem KT.keeps (r:KT H aL xs)(M:∀b ys,H b=some (.tup ys)->H' b=some (.tup ys)):KT H' aL xs :=
 Paired.mapP r λ_ _ z=>⟨z.1,M _ _ z.2.1,z.2.2⟩
section
variable {P:Program}{w:World}{H:Hp}{h:Heap}{a:Addr}
theorem Ki (ok:lx P w H h)(e:Rd H a u):c7 P w H h a u:=e.ok ok
theorem zP (ok:lx P w H h)(e:H a=some (.dK aL ob)):h.get? a=some ob:=And.left (show c7 P w H h a (.dK aL ob)from ok a _ e)
theorem pV (ok:lx P w H h)(e:Rd H a (.dK aL ob)):aL.length<=sizeLine/\(a == sysModules)=false/\∃vs,KV aL vs/\h.DictOf (c6 P w) a vs :=
 And.right (show c7 P w H h a (.dK aL ob)from Ki ok e)
theorem pW (ok:lx P w H h)(e:H a=some (.dK aL ob)):aL.length<=sizeLine/\(a == sysModules)=false/\∃vs,KV aL vs/\h.DictOf (c6 P w) a vs:=pV ok (.inl e)
theorem nw (ok:lx P w H h)(e:H a=some (.tup (ks.map kV))):(tupleKind (c6 P w)).is h ks a:=by
 obtain⟨_,its,r,o,h1,h2,n,h3⟩:=(show c7 P w H h a (.tup (ks.map kV))from ok a _ e);exact⟨o,its.toArray,n,h1,h2,h3,by simpa using tJ r⟩
theorem pX (ok:lx P w H h)(e:Rd H a (.dT aL)):aL.length<=sizeLine/\(a == sysModules)=false /\
  ∃xs,KT H aL xs/\h.DictOfH (tupleKind (c6 P w)) a xs:=by
 obtain⟨z,y,xs,r,o,es,M,h1,h2,h3,h4,h5⟩:=(show c7 P w H h a (.dT aL)from Ki ok e);refine⟨z,y,xs,r,o,es,M,h1,h2,h3,h4,λx hx=>?_,h5⟩;have all:∀ {l:List (List dO×V)}{m:List (List dO×Addr×Value)},KT H l m->∀x∈m,(tupleKind (c6 P w)).is h x.1 x.2.1:=by
  intro l m q;induction q with
  |nil=>intro x hx;exact nomatch hx
  |@cons p q ps T hq t O=>
   intro x hx;rcases vP hx with e|hx
   ·subst e;exact nw ok (by rw[<-hq.1];exact hq.2.1)
   ·exact O x hx
 exact all r x hx
theorem Oy (ok:lx P w H h)(e:H a=some (.dT aL)):aL.length<=sizeLine/\(a == sysModules)=false /\
  ∃xs,KT H aL xs/\h.DictOfH (tupleKind (c6 P w)) a xs:=pX ok (.inl e)
end
def pY (H:Hp)(a:Addr)(y:V)(r:Option V):Prop :=
 (∃aL k ob,Rd H a (.dK aL ob)/\y=kV k/\r=fL aL k)\/∃aL k b,Rd H a (.dT aL)/\y=.ref b/\H b=some (.tup (k.map kV))/\r=fL aL k
def Oz (H:Hp)(a:Addr)(y v:V)(Q:Hp->Prop):Prop :=
 (∃aL k ob,H a=some (.dK aL ob)/\y=kV k/\aL.length<sizeLine/\∀M,Q (upd H a (.dK (jl aL k v) M))) \/
 ∃aL k b,H a=some (.dT aL)/\y=.ref b/\H b=some (.tup (k.map kV))/\aL.length<sizeLine/\Q (upd H a (.dT (jl aL k v)))
theorem pY.t (e:H a=some (.dT aL))(M:H b=some (.tup (k.map kV))):pY H a (.ref b) (fL aL k):=.inr ⟨aL,k,b,.inl e,rfl,M,rfl⟩
section
variable {X:Cx}{ae:AO}{σ:St}{H:Hp}{s:Shared}{a:Addr}{y v:V}{u r:Value}{o:Option V}{A:Around}{E:QV}
theorem Inv.big (I:Inv X ae σ H s):sysModules<s.heap.objs.size:=by
 have h:mainGlobals<s.heap.objs.size:=(I.mod.glob.keeps I.bk).lt;exact Nat.lt_trans (by decide) h
theorem CH (hu:A.units+1<cLine)(I:Inv X ae σ H s)(g:pY H a y (some v))(c:aZ y u)(h:∀T s',Inv X ae σ H s'->aZ v T->Q T s'):
  wpAny (model X.prog X.w) A (getItem (.ref a) u) Q E s:=by
 rcases g with⟨aL,k,ob,e,U,l⟩|⟨aL,k,b,e,U,d,l⟩
 ·subst U;obtain⟨z,hd,vs,M,dd⟩:=pV I.hok e;obtain⟨T,hw,O⟩:=lw.some_of (v:=v) (o:=valueAt vs k) (by rw[l];exact M.val k);exact wpAny_getItem_of (pU c) dd.mapOf hw (h T _ (I.tok _) O)
 ·subst U;cases (show u=Value.ref b from c)
  obtain⟨z,hd,xs,M,dd⟩:=pX I.hok e;obtain⟨T,hw,O⟩:=lw.some_of (v:=v) (o:=(atKey xs k).map (·.2)) (by rw[l];exact M.val k);obtain⟨p,hp,f⟩:=oY hw;refine wpAny_getItem_heap (tupleKind_room_in1 hu) (nw I.hok d) dd hp ?_;rw[f];exact h T _ (I.tok _) O
theorem RJ (hu:A.units+1<cLine)(I:Inv X ae σ H s)(g:pY H a y o)(T:aZ y u)(h:∀s',Inv X ae σ H s'->Q (.bool o.isSome) s'):
  wpAny (model X.prog X.w) A (compareOp .In u (.ref a)) Q E s:=by
 rcases g with⟨aL,k,ob,e,O,l⟩|⟨aL,k,b,e,O,U,l⟩
 ·subst O;obtain⟨z,hd,vs,M,dd⟩:=pV I.hok e;refine wpAny_in_of (pU T) hd dd.mapOf ?_;rw[<-(M.val k).isSome_eq,<-l];exact h _ (I.tok _)
 ·subst O;cases (show u=Value.ref b from T)
  obtain⟨z,hd,xs,M,dd⟩:=pX I.hok e;refine wpAny_in_heap (tupleKind_room_in1 hu) (nw I.hok U) hd dd ?_;have q:=(M.val k).isSome_eq;rw[isSome_map]at q;rw[<-q,<-l];exact h _ (I.tok _)
theorem HG (hu:A.units+1<cLine)(I:Inv X ae σ H s)(g:pY H a y o)(T:aZ y u)(h:∀s',Inv X ae σ H s'->Q (.bool (!o.isSome)) s'):
  wpAny (model X.prog X.w) A (compareOp .NotIn u (.ref a)) Q E s:=by
 rcases g with⟨aL,k,ob,e,O,l⟩|⟨aL,k,b,e,O,U,l⟩
 ·subst O;obtain⟨z,hd,vs,M,dd⟩:=pV I.hok e;refine wpAny_notIn_of (pU T) hd dd.mapOf ?_;rw[<-(M.val k).isSome_eq,<-l];exact h _ (I.tok _)
 ·subst O;cases (show u=Value.ref b from T)
  obtain⟨z,hd,xs,M,dd⟩:=pX I.hok e;refine wpAny_notIn_heap (tupleKind_room_in1 hu) (nw I.hok U) hd dd ?_;have q:=(M.val k).isSome_eq;rw[isSome_map]at q;rw[<-q,<-l];exact h _ (I.tok _)
theorem vy (I:Inv X ae σ H s)(M:NR (H a))(hs:Heap.SameBut a s.heap h')(he:∃q,h'.get? a=some q)(new:c7 X.prog X.w (upd H a ob) h' a ob):
  Inv X ae σ (upd H a ob) { s with heap:=h',toks:=t' } :=
 I.write (x:=a) (e:=a) M (.inl rfl) (λb q hb z=>(hs.2 b hb).trans z) he new
theorem Ep (z:aL.length<=sizeLine)(hd:(a == sysModules)=false)(M:KV aL vs)(dd:h'.DictOf (c6 P w) a vs)(O:h'.get? a=some ob):
  c7 P w H' h' a (.dK aL ob):=⟨O,z,hd,vs,M,dd⟩
theorem CJ (hu:A.units+1<cLine)(I:Inv X ae σ H s)(g:Oz H a y v R)(d:aZ y u)(f:aZ v r)(h:∀H' s',R H'->Inv X ae σ H' s'->Q () s'):
  wpAny (model X.prog X.w) A (setItem (.ref a) u r) Q E s:=by
 rcases g with⟨aL,k,ob,e,T,l,U⟩|⟨aL,k,b,e,T,i,l,U⟩
 ·subst T;obtain⟨z,hd,vs,M,dd⟩:=pW I.hok e;have hz:vs.length<=sizeLine:=by rw[<-M.length];exact z
  have hl:(jl aL k v).length<=sizeLine:=by have:=kj aL k v;lia
  refine wpAny_setItem_pairs (hsz:=hz) (pU d) dd λh' O hs=>?_;obtain⟨q,hq⟩:∃q,h'.get? a=some q:=let ⟨q,_,_,hq,_⟩:=O;⟨q,hq⟩;exact h _ _ (U q) (vy I (by rw[e];exact True.intro) hs ⟨q,hq⟩ (Ep hl hd (M.put k f) O hq))
 ·subst T;cases (show u=Value.ref b from d)
  obtain⟨z,hd,xs,M,dd⟩:=Oy I.hok e;have hz:xs.length<=sizeLine:=by rw[<-Paired.length M];exact z
  have hl:(jl aL k v).length<=sizeLine:=by have:=kj aL k v;lia
  refine wpAny_setItem_heap (hsz:=hz) (tupleKind_room_in1 hu) (nw I.hok i) dd λh' O hs=>h _ _ U ?_;obtain⟨q,es,m,hq,h2,h3,h4,_,h5⟩:=O;refine vy I (by rw[e];exact True.intro) hs ⟨q,hq⟩ ⟨hl,hd,_,(M.put k i f).keeps λc ys j=>?_,q,es,m,hq,h2,h3,h4,h5⟩;rw[aD (NQ j e (λz=>nomatch z))];exact j
end
def L6 (i:Expr):Prop:=∀M iv,subscripted i false M iv=operate [M,iv] (getItem M iv)
theorem HH {prog:Program}{w:World}{A:Around}{E:QV}{s:Shared}{env:Env}{O M:Expr}{f:Pos}{T id:String}{Q:QV}
  (hl:typeLookup (.type T) "__getitem__" = pure (some (.builtin id))) (hs:L6 M)
  (h:wpAny (model prog w) A (eval O env) (λo b=>wpAny (model prog w) A (eval M env) (λi U=>U.TypeIs o T/\wpAny (model prog w) A (getItem o i) Q E U) E b) E s):
  wpAny (model prog w) A (eval (.Subscript O M f) env) Q E s:=by
 refine Subscript_ (wpAny_mono h (λo b d=>wpAny_mono d (λi U a=>?_) λ_ _ x=>x) λ_ _ x=>x);obtain⟨g,a⟩:=a;unfold subscriptTail;refine wX ?_;rw[getitemInPython_of_ne g.not_modules];refine wX (wpAny_specialOf g hl ?_);have fin:wpAny (model prog w) A (subscripted M false o i) (λr c=>wpAny (model prog w) A (letTemporaryGo O o r>>=λ_=>pure r) Q E c) E U:=by
  rw[hs o i];exact wpAny_operating (wpAny_mono a (λr c e=>wX (wpAny_letTemporaryGo (wY e))) λ_ _ x=>x)
 first
  |exact wY (wX fin)
  |exact wX (wY (wX fin))
  |exact wX fin
theorem xI (I:Inv X ae σ H s)(g:pY H a y o):s.TypeIs (.ref a) "dict":=by
 rcases g with⟨aL,k,M,e,_,_⟩|⟨aL,k,b,e,_,_,_⟩
 ·obtain⟨_,_,vs,_,dd⟩:=pV I.hok e;exact dd.typeIs
 ·obtain⟨_,_,xs,_,dd⟩:=pX I.hok e;exact dd.typeIs
def O0 (M ty:TE):TE:=λσ H Q=>M σ H λx O=>ty σ O λy H2=>∃a v,x=.ref a/\pY H2 a y (some v)/\Q v H2
def RK (ty M:TE):TE:=λσ H Q=>ty σ H λy O=>M σ O λx H2=>∃a o,x=.ref a/\pY H2 a y o/\Q (.bl o.isSome) H2
def HI (ty M:TE):TE:=λσ H Q=>ty σ H λy O=>M σ O λx H2=>∃a o,x=.ref a/\pY H2 a y o/\Q (.bl (!o.isSome)) H2
def AN (M ty O:TE):TS:=λD σ H=>O σ H λv T=>M σ T λx H2=>ty σ H2 λy U=>∃a,x=.ref a/\Oz U a y v (D.nx σ)
section
variable {X:Cx}{o i e value:Expr}{pos GL ML:Pos}{td ty tv:TE}
theorem AQ (hu:X.A.units+1<cLine)(O:PE X o td)(hi:PE X i ty)(hs:L6 i):PE X (.Subscript o i pos) (O0 td ty):=by
 intro ae s σ H Q I h;refine HH PySem.F.slot_dict_getitem.lookup hs (cA (O ae s σ H _ I h) λu s1 ⟨x,T,I1,U,b⟩=>cA (hi ae s1 σ T _ I1 b) λiv s2 ⟨y,H2,I2,c,a,v,ex,g,d⟩=>?_);subst ex;obtain rfl:u=Value.ref a:=U;exact⟨xI I2 g,CH hu I2 g c λj k f M=>⟨v,H2,f,M,d⟩⟩
theorem L7 (hu:X.A.units+1<cLine)(hi:PE X i ty)(M:PE X o td):PC X .In i o (RK ty td):=by
 intro ae s σ H Q I h;refine cA (hi ae s σ H _ I h) λiv s1 ⟨y,O,I1,T,U⟩=>cA (M ae s1 σ O _ I1 U) λu s2 ⟨x,H2,I2,b,a,c,ex,g,d⟩=>?_;subst ex;obtain rfl:u=Value.ref a:=b;exact RJ hu I2 g T λj f=>⟨.bl c.isSome,H2,f,rfl,d⟩
theorem CK (hu:X.A.units+1<cLine)(hi:PE X i ty)(M:PE X o td):PC X .NotIn i o (HI ty td):=by
 intro ae s σ H Q I h;refine cA (hi ae s σ H _ I h) λiv s1 ⟨y,O,I1,T,U⟩=>cA (M ae s1 σ O _ I1 U) λu s2 ⟨x,H2,I2,b,a,c,ex,g,d⟩=>?_;subst ex;obtain rfl:u=Value.ref a:=b;exact HG hu I2 g T λj f=>⟨.bl (!c.isSome),H2,f,rfl,d⟩
theorem p7 (hu:X.A.units+1<cLine)(M:PE X o td)(hi:PE X i ty)(hv:PE X value tv)(hs:swapsWith value (some (.Subscript o i GL)) pos.line X.env=pure false):
  PS X (.Assign [.Subscript o i GL] value pos) (AN td ty tv):=by
 intro ae s σ H D I h;refine wpAny_Assign_Subscript (cA (hv ae s σ H _ I h) λr s1 ⟨v,O,I1,T,U⟩=>cA (M ae s1 σ O _ I1 U) λu s2 ⟨x,H2,I2,b,c⟩=>cA (hi ae s2 σ H2 _ I2 c) λiv m ⟨y,n,d,f,a,ex,g⟩=>?_) hs;subst ex;obtain rfl:u=Value.ref a:=b;exact CJ hu d g f T λj p k l=>⟨σ,j,l,k⟩
end
theorem xJ (h:Heap)(hb:sysModules<h.objs.size):c7 P w H (h.push { cls:=.type "dict",data:=.dict #[] }) h.objs.size (.dK [] { cls:=.type "dict",data:=.dict #[] }) :=
 ⟨vY _ rfl,uN _,beq_eq_false_iff_ne.mpr (Ne.symm (vS hb)),[],.nil,Heap.DictOf.new h⟩
theorem Er (h:Heap)(hb:sysModules<h.objs.size):c7 P w H (h.push { cls:=.type "dict",data:=.dict #[] }) h.objs.size (.dT []) :=
 ⟨uN _,beq_eq_false_iff_ne.mpr (Ne.symm (vS hb)),[],.nil,_,#[],0,vY _ rfl,⟨rfl,rfl,rfl⟩,rfl,rfl,nodup_nil⟩
def Es:TE:=λ_ H Q=>∀p ob,H p=none->Q (.ref p) (upd H p (.dK [] ob))
def Et:TE:=λ_ H Q=>∀p,H p=none->Q (.ref p) (upd H p (.dT []))
section
variable {X:Cx}{pos:Pos}
theorem xK:PE X (.Dict [] [] pos) Es:=λae s σ H Q I h=>
 wpAny_Dict_empty ⟨.ref s.heap.objs.size,_,I.laid (a:=s.heap.objs.size) (o:=.dK [] { cls:=.type "dict",data:=.dict #[] }) (t':=s.toks) (λ_ _ q=>vZ _ q) (vT _) (xJ s.heap I.big),rfl,h _ _ (I.hok.fresh (vT _))⟩
theorem Eu:PE X (.Dict [] [] pos) Et:=λae s σ H Q I h=>
 wpAny_Dict_empty ⟨.ref s.heap.objs.size,_,I.laid (a:=s.heap.objs.size) (o:=.dT []) (t':=s.toks) (λ_ _ q=>vZ _ q) (vT _) (Er s.heap I.big),rfl,h _ (I.hok.fresh (vT _))⟩
end
structure M1 (X:Cx)(o:Expr)(m:Str)(dI:Pos)(e:Expr)(cL:Pos):Prop where
 base:attributeBase o m X.env (eval o X.env)=eval o X.env
 few:((backTo cL (starEach [e] X.env)).all (λx=>!x.1) && (backToKw cL (keywordEach [] X.env)).all (λx=>x.1.isSome)
  && decide (([e]:List Expr).length+([]:List Keyword).length+(if([]:List Keyword).isEmpty then 0 else 1)<30))=true
 line:(dI.endLine == cL.line)=true
 trees:backTo cL (starEach [e] X.env)=[(false,eval e X.env)]
def Uk (H:Hp)(a:Addr):Prop:=(∃aL ob,Rd H a (.dK aL ob))\/∃aL,Rd H a (.dT aL)
theorem L8 (I:Inv X ae σ H s)(d:Uk H a):
  s.TypeIs (.ref a) "dict"/\(∀b,Value.ref a=.ref b->∃ob,s.heap.get? b=some ob/\ob.dict=none)/\(a == sysModules)=false:=by
 rcases d with⟨aL,M,e⟩|⟨aL,e⟩
 ·obtain⟨_,hd,vs,_,dd⟩:=pV I.hok e;refine⟨dd.typeIs,λb q=>?_,hd⟩;cases q
  obtain⟨ob,_,_,h1,h2,_⟩:=dd;exact⟨ob,h1,h2.2.1⟩
 ·obtain⟨_,hd,xs,_,dd⟩:=pX I.hok e;refine⟨dd.typeIs,λb q=>?_,hd⟩;cases q
  obtain⟨ob,_,_,h1,h2,_⟩:=dd;exact⟨ob,h1,h2.2.1⟩
section
variable {X:Cx}{ae:AO}{σ:St}{H:Hp}{s:Shared}{a:Addr}{y d:V}{u r:Value}{o:Option V}{A:Around}{E:QV}
theorem L9 (hu:A.units+1<cLine)(I:Inv X ae σ H s)(g:pY H a y o)(T:aZ y u)(h:∀U s',Inv X ae σ H s'->aZ (o.getD .non) U->Q U s'):
  wpAny (model X.prog X.w) A (call (.builtin "dict.get") [.ref a,u]) Q E s:=by
 rcases g with⟨aL,k,ob,e,O,l⟩|⟨aL,k,b,e,O,c,l⟩
 ·subst O;obtain⟨z,hd,vs,M,dd⟩:=pV I.hok e;refine call_meetsIn slot_dict_get dd.typeIs entry_dict_get (PySem.F.args_dict_get_2 _ _) (meets_dict_get (c6 X.prog X.w) a (pU T) hd) ⟨_,dd.mapOf,h _ _ (I.tok _) ?_⟩;rw[l];exact(M.val k).getD rfl
 ·subst O;cases (show u=Value.ref b from T)
  obtain⟨z,hd,xs,M,dd⟩:=pX I.hok e;refine call_meetsIn slot_dict_get dd.typeIs entry_dict_get (PySem.F.args_dict_get_2 _ _) (meetsH_dict_get (tupleKind (c6 X.prog X.w)) a b hd) ⟨tupleKind_room_in1 hu,k,xs,nw I.hok c,dd,h _ _ (I.tok _) ?_⟩;rw[l];exact(M.val k).getD rfl
end
def LA (O ty:TE):TE:=λσ H Q=>O σ H λx M=>∃a,x=.ref a/\Uk M a/\ty σ M λy H2=>∃o,pY H2 a y o/\Q (o.getD .non) H2
section
variable {X:Cx}{o e f:Expr}{dI cL:Pos}{td ty tx:TE}
theorem xL (hu:X.A.units+1<cLine)(O:PE X o td)(he:PE X e ty)(m:M1 X o "get" dI e cL):PE X (.Call (.Attribute o "get" dI) [e] [] cL) (LA td ty):=by
 intro ae s σ H Q I h;refine wpAny_Call_method m.base m.few m.line plainAttrs_dict slot_dict_get PySem.F.type_dict_get (cA (O ae s σ H _ I h) λu s1 ⟨x,T,I1,U,a,ex,d,b⟩=>?_);subst ex;obtain rfl:u=Value.ref a:=U;obtain⟨c,i,_⟩:=L8 I1 d;refine⟨c,i,?_⟩;rw[m.trees];refine Calls.callWith_builtin rfl (Calls.evalArgs_plain (Calls.spliced_cons (cA (he ae s1 σ T _ I1 b) λiv s2 ⟨y,H2,I2,j,n,g,k⟩=>Calls.spliced_nil ?_)));exact L9 hu I2 g j λp q l M=>⟨_,H2,l,M,k⟩
end
end L2
namespace DL
open PySem L2
set_option linter.all false
abbrev St:=L2.St
inductive D where
 |non|bl (b:Bool)|int (i:Int)|str (x:Str)|ty (n:String)|tup (ds:List D)|lst (ds:List D)
  |dk (ks:List dO) (vs:List D)|dt (ks:List (List dO)) (vs:List D)
abbrev LD:=List D
abbrev LV:=List V
abbrev LK:=List dO
abbrev OB:=Option (D×Bool)
mutual
inductive Is (K:Frag)(H:Hp):V->D->Prop where
 |non:Is K H .non .non
 |bl (b:Bool):Is K H (.bl b) (.bl b)
 |int (i:Int):Is K H (.int i) (.int i)
 |str (x:Str):Is K H (.str x) (.str x)
 |ty (n:String):Is K H (.ty n) (.ty n)
 |tup {a:Addr}{vs:List V}{ds:List D}(h:ji K H a vs) (hs:IsL K H vs ds):Is K H (.ref a) (.tup ds)
 |lst {a:Addr}{vs:List V}{ds:List D}(h:fx K H a vs) (hs:IsL K H vs ds):Is K H (.ref a) (.lst ds)
 |dk {a:Addr}{ks:List dO}{vs:List V}{ds:List D}{ob:Obj}(h:H a=some (.dK (ks.zip vs) ob)) (hl:ks.length=vs.length) (hs:IsL K H vs ds):Is K H (.ref a) (.dk ks ds)
 |dt {a:Addr}{ks:List (List dO)}{vs:List V}{ds:List D}(h:H a=some (.dT (ks.zip vs))) (hl:ks.length=vs.length) (hs:IsL K H vs ds):Is K H (.ref a) (.dt ks ds)
inductive IsL (K:Frag)(H:Hp):List V->List D->Prop where
 |nil:IsL K H [] []
 |cons {v:V}{d:D}{vs:List V}{ds:List D}(h:Is K H v d) (hs:IsL K H vs ds):IsL K H (v::vs) (d::ds)
end
mutual
def bB:D->Bool
 |.lst _=>false
 |.dk _ _=>false
 |.dt _ _=>false
 |.tup ds=>bE ds
 |_=>true
def bE:LD->Bool
 |[]=>true
 |d::ds=>bB d && bE ds
end
@[simp] theorem No:bB .non=true:=by simp only[bB]
@[simp] theorem O1 (b:Bool):bB (.bl b)=true:=by simp only[bB]
@[simp] theorem Np (i:Int):bB (.int i)=true:=by simp only[bB]
@[simp] theorem Nq (x:Str):bB (.str x)=true:=by simp only[bB]
@[simp] theorem O2 (x:String):bB (.ty x)=true:=by simp only[bB]
@[simp] theorem Nr (ds:LD):bB (.tup ds)=bE ds:=by rw[bB]
@[simp] theorem Nt (ds:LD):bB (.lst ds)=false:=by rw[bB]
@[simp] theorem O3 (ks:LK)(ds:LD):bB (.dk ks ds)=false:=by rw[bB]
@[simp] theorem O4 (ks:List LK)(ds:LD):bB (.dt ks ds)=false:=by rw[bB]
@[simp] theorem LB:bE []=true:=by rw[bE]
@[simp] theorem Kj (d:D)(ds:LD):bE (d::ds)=(bB d && bE ds):=by rw[bE]
section
variable {K:Frag}{H H':Hp}
mutual
theorem Is.keep (M:∀a vs,ji K H a vs->ji K H' a vs)(O:∀a vs,fx K H a vs->fx K H' a vs)(T:∀a aL ob,H a=some (.dK aL ob)->H' a=some (.dK aL ob))(U:∀a aL,H a=some (.dT aL)->H' a=some (.dT aL)):∀ {v:V}{d:D},Is K H v d->Is K H' v d
 |_,_,.non=>.non
 |_,_,.bl b=>.bl b
 |_,_,.int i=>.int i
 |_,_,.str x=>.str x
 |_,_,.ty x=>.ty x
 |_,_,.tup h hs=>.tup (M _ _ h) (IsL.keep M O T U hs)
 |_,_,.lst h hs=>.lst (O _ _ h) (IsL.keep M O T U hs)
 |_,_,.dk h hl hs=>.dk (T _ _ _ h) hl (IsL.keep M O T U hs)
 |_,_,.dt h hl hs=>.dt (U _ _ h) hl (IsL.keep M O T U hs)
theorem IsL.keep (M:∀a vs,ji K H a vs->ji K H' a vs)(O:∀a vs,fx K H a vs->fx K H' a vs)(T:∀a aL ob,H a=some (.dK aL ob)->H' a=some (.dK aL ob))(U:∀a aL,H a=some (.dT aL)->H' a=some (.dT aL)):∀ {vs:LV}{ds:LD},IsL K H vs ds->IsL K H' vs ds
 |_,_,.nil=>.nil
 |_,_,.cons h hs=>.cons (Is.keep M O T U h) (IsL.keep M O T U hs)
end
mutual
theorem Is.keepT (M:∀a vs,ji K H a vs->ji K H' a vs):∀ {v:V}{d:D},Is K H v d->bB d=true->Is K H' v d
 |_,_,.non,_=>.non
 |_,_,.bl b,_=>.bl b
 |_,_,.int i,_=>.int i
 |_,_,.str x,_=>.str x
 |_,_,.ty x,_=>.ty x
 |_,_,.tup h hs,n=>.tup (M _ _ h) (IsL.keepT M hs (by simpa using n))
 |_,_,.lst h hs,n=>by simp at n
 |_,_,.dk h hl hs,n=>by simp at n
 |_,_,.dt h hl hs,n=>by simp at n
theorem IsL.keepT (M:∀a vs,ji K H a vs->ji K H' a vs):∀ {vs:LV}{ds:LD},IsL K H vs ds->bE ds=true->IsL K H' vs ds
 |_,_,.nil,_=>.nil
 |_,_,.cons h hs,n=>by
  simp at n;exact .cons (Is.keepT M h n.1) (IsL.keepT M hs n.2)
end
theorem bv (e:aT H H')(h:ji K H a xs):ji K H' a xs:=by
 rcases h with (h|⟨o,h⟩)|h
 ·exact .inl (.inl (e _ _ h))
 ·exact .inl (.inr ⟨o,e _ _ h⟩)
 ·exact .inr h
theorem Is.mono (h:Is K H v d)(e:aT H H'):Is K H' v d:=h.keep (λ_ _=>bv e) (λ_ _=>e.seq) (λ_ _ _ q=>e _ _ q) λ_ _ q=>e _ _ q
theorem IsL.mono (h:IsL K H v d)(e:aT H H'):IsL K H' v d:=h.keep (λ_ _=>bv e) (λ_ _=>e.seq) (λ_ _ _ q=>e _ _ q) λ_ _ q=>e _ _ q
theorem IsL.length:∀ {vs:LV}{ds:LD},IsL K H vs ds->vs.length=ds.length
 |_,_,.nil=>rfl
 |_,_,.cons _ t=>congrArg (· + 1) t.length
theorem IsL.get:∀ {vs:LV}{ds:LD}{i:Nat}{d:D},IsL K H vs ds->ds[i]? = some d->∃v,vs[i]? = some v/\Is K H v d
 |_,_,_,_,.nil,e=>by simp at e
 |_,_,0,_,.cons h _,e=>by simp at e;subst e;exact⟨_,rfl,h⟩
 |_,_,i+1,d,.cons _ t,e=>by
  obtain⟨u,h1,h2⟩:=t.get (i:=i) (d:=d) (by simpa using e);exact⟨u,by simpa using h1,h2⟩
theorem IsL.append:∀ {vs M:LV}{ds es:LD},IsL K H vs ds->IsL K H M es->IsL K H (vs++M) (ds++es)
 |_,_,_,_,.nil,s=>s
 |_,_,_,_,.cons r t,s=>.cons r (t.append s)
theorem IsL.take:∀ {vs:LV}{ds:LD}(n:Nat),IsL K H vs ds->IsL K H (vs.take n) (ds.take n)
 |_,_,0,_=>by simpa using IsL.nil
 |_,_,_+1,.nil=>.nil
 |_,_,n+1,.cons r t=>.cons r (t.take n)
theorem IsL.drop:∀ {vs:LV}{ds:LD}(n:Nat),IsL K H vs ds->IsL K H (vs.drop n) (ds.drop n)
 |_,_,0,r=>r
 |_,_,_+1,.nil=>.nil
 |_,_,n+1,.cons _ t=>t.drop n
theorem IsL.set (h:Is K H v d):∀ {vs:LV}{ds:LD}(i:Nat),IsL K H vs ds->IsL K H (vs.set i v) (ds.set i d)
 |_,_,_,.nil=>.nil
 |_,_,0,.cons _ t=>.cons h t
 |_,_,i+1,.cons r t=>.cons r (IsL.set h i t)
theorem IsL.flat {vs:LV}{ns:LI}(h:vs=ns.map V.int):IsL K H vs (ns.map D.int):=by
 subst h;induction ns with
 |nil=>exact .nil
 |cons n ns M=>exact .cons (.int n) M
end
structure Ext (B N H H':Hp):Prop where
 hh:aT H H'
 bn:aT B N
 nh:aT N H'
 new:∀a o,N a=some o->B a=some o\/H a=none
theorem Ext.refl (h:aT B H):Ext B B H H:=⟨.refl _,.refl _,h,λ_ _ e=>.inl e⟩
theorem Ext.trans (x:Ext B N H M)(y:Ext N N2 M H2):Ext B N2 H H2 :=
 ⟨x.hh.trans y.hh,x.bn.trans y.bn,y.nh,λa o e=>(y.new a o e).elim (λq=>x.new a o q) λq=>.inr (x.hh.free q)⟩
theorem Ext.laid (h:aT B H)(hp:H p=none):Ext B (upd B p o) H (upd H p o):=by
 have M:B p=none:=h.free hp;refine⟨λa u e=>?_,λa u e=>?_,λa u e=>?_,λa u e=>?_⟩
 ·rw[aD (λq=>by subst q;rw[hp]at e;cases e)];exact e
 ·rw[aD (λq=>by subst q;rw[M]at e;cases e)];exact e
 ·by_cases q:a=p
  ·subst q;rw[aA]at e |-;exact e
  ·rw[aD q]at e |-;exact h _ _ e
 ·by_cases q:a=p
  ·subst q;exact .inr hp
  ·rw[aD q]at e;exact .inl e
theorem Ext.grow (h:aT B H)(hh:aT H H'):Ext B B H H':=⟨hh,.refl _,h.trans hh,λ_ _ e=>.inl e⟩
abbrev Env:=List OB
abbrev FE:=Env->OB
abbrev FA:=Env->Option LD
abbrev FT:=Env->Option Bool
def Nu (K:Frag)(H N:Hp)(v:V)(d:D):Prop:=∃(a:Addr)(vs:LV)(ds:LD),v=.ref a/\d=.lst ds/\H a=none/\N a=some (.lst vs)/\IsL K N vs ds
theorem Nu.back (h:Nu K H' N v d)(e:aT H H'):Nu K H N v d:=let ⟨a,vs,ds,q,y,z,r⟩:=h;⟨a,vs,ds,q,y,e.free z,r⟩
noncomputable def mr:LS:=["in_order","has_seal","is_first_death","bases_by","as_heard"]
noncomputable def pZ (x:Str):Str:=x ++ ".<locals>." ++ "<lambda>"
def Tb (K:Frag)(B:Hp):Prop:=∀x∈mr,∀c P,PySem.W.tabIn K x=some (c,P)->B P=some (.tbl (pZ x))
theorem Tb.mono (h:Tb K B)(e:aT B M):Tb K M:=λx hx c P q=>e _ _ (h x hx c P q)
structure eU (K:Frag)(B:Hp)(σ:St)(ρ:Env):Prop where
 tb:Tb K B
 at':∀(i:Nat)(d:D)(b:Bool),ρ[i]? = some (some (d,b))->∃v,σ[i]? = some (some v)/\Is K B v d
theorem eU.mono (h:eU K B σ ρ)(e:aT B M):eU K M σ ρ:=⟨h.tb.mono e,λi d b q=>let ⟨v,h1,h2⟩:=h.at' i d b q;⟨v,h1,h2.mono e⟩⟩
def Fin (K:Frag)(B H:Hp)(d:D)(b:Bool)(Q:VK):Prop:=∀(v:V)(H' N:Hp),Ext B N H H'->Is K N v d->(b=true->Nu K H N v d)->Q v H'
def tD (K:Frag)(f:FE):TE:=λσ H Q=>∃(B:Hp)(ρ:Env)(d:D)(b:Bool),aT B H/\eU K B σ ρ/\f ρ=some (d,b)/\Fin K B H d b Q
def CL (K:Frag)(f:FT):TT:=λσ H Q=>∃(B:Hp)(ρ:Env)(c:Bool),aT B H/\eU K B σ ρ/\f ρ=some c/\∀H',aT H H'->Q c H'
def Nv (K:Frag)(f:FA):TA:=λσ H Q=>∃(B:Hp)(ρ:Env)(ds:LD),aT B H/\eU K B σ ρ/\f ρ=some ds/\∀(vs:LV)(H' N:Hp),Ext B N H H'->IsL K N vs ds->Q vs H'
def rD (K:Frag)(op:D->D->OB):R2:=λx y H Q=>∃(B:Hp)(dx M d:D)(b:Bool),aT B H/\Is K B x dx/\Is K B y M/\op dx M=some (d,b)/\Fin K B H d b Q
def RL (K:Frag)(op:D->OB):V->Hp->VK->Prop:=λx H Q=>∃(B:Hp)(dx d:D)(b:Bool),aT B H/\Is K B x dx/\op dx=some (d,b)/\Fin K B H d b Q
def CM (K:Frag)(op:LD->OB):LV->Hp->VK->Prop:=λxs H Q=>∃(B:Hp)(ds:LD)(d:D)(b:Bool),aT B H/\IsL K B xs ds/\op ds=some (d,b)/\Fin K B H d b Q
theorem Fin.one (h:Fin K B H d false Q)(s:aT B H)(i:Is K B v d):Q v H:=h v H B (.refl s) i (by simp)
theorem Fin.into (h:Fin K B H d b Q)(x:Ext B N H M):Fin K N M d b Q:=λv H' N' y i fr=>h v H' N' (x.trans y) i λe=>(fr e).back x.hh
@[simp] noncomputable def fC (d:D):FE:=λ_=>some (d,false)
@[simp] noncomputable def ai (i:Nat):FE:=λρ=>match ρ[i]? with|some (some (d,_))=>some (d,false)|_=>none
@[simp] noncomputable def f2 (op:D->D->OB)(fa M:FE):FE:=λρ=>(fa ρ).bind λx=>(M ρ).bind λy=>op x.1 y.1
@[simp] noncomputable def f1 (op:D->OB)(fa:FE):FE:=λρ=>(fa ρ).bind λx=>op x.1
@[simp] noncomputable def aj:FA:=λ_=>some []
@[simp] noncomputable def af (fa:FE)(fr:FA):FA:=λρ=>(fa ρ).bind λx=>(fr ρ).bind λxs=>some (x.1::xs)
@[simp] noncomputable def fA (op:LD->OB)(fa:FA):FE:=λρ=>(fa ρ).bind op
theorem LC (h:tD K (ai i) σ H Q):∃v,σ[i]? = some (some v)/\Q v H:=by
 obtain⟨B,ρ,d,b,s,r,e,q⟩:=h;unfold ai at e;split at e
 ·rename_i d' b' M;cases e
  obtain⟨v,h1,h2⟩:=r.at' i _ _ M;exact⟨v,h1,q.one s h2⟩
 ·cases e
theorem HJ (h:tD K (f2 op fa fb) σ H Q):tD K fa σ H λx T=>tD K fb σ T λy H2=>rD K op x y H2 Q:=by
 obtain⟨B,ρ,d,b,s,r,e,q⟩:=h;obtain⟨x,ex,e⟩:=oX e;obtain⟨y,U,e⟩:=oX e;refine⟨B,ρ,x.1,x.2,s,r,ex,λv T N M a _=>⟨N,ρ,y.1,y.2,M.nh,r.mono M.bn,U,λf H2 N2 O c _=>⟨N2,x.1,y.1,d,b,O.nh,a.mono O.bn,c,e,?_⟩⟩⟩;exact q.into (M.trans O)
theorem RM (h:tD K (f1 op fa) σ H Q):tD K fa σ H λx M=>RL K op x M Q:=by
 obtain⟨B,ρ,d,b,s,r,e,q⟩:=h;obtain⟨x,ex,e⟩:=oX e;exact⟨B,ρ,x.1,x.2,s,r,ex,λv M N O T _=>⟨N,x.1,d,b,O.nh,T,e,q.into O⟩⟩
theorem HK (h:tD K (fA op fa) σ H Q):Nv K fa σ H λxs M=>CM K op xs M Q:=by
 obtain⟨B,ρ,d,b,s,r,e,q⟩:=h;obtain⟨x,ex,e⟩:=oX e;exact⟨B,ρ,x,s,r,ex,λv M N O T=>⟨N,x,d,b,O.nh,T,e,q.into O⟩⟩
theorem HL (h:Nv K aj σ H Q):Q [] H:=by
 obtain⟨B,ρ,ds,s,r,e,q⟩:=h;cases e
 exact q [] H B (.refl s) .nil
theorem Ev (h:Nv K (af fa fr) σ H Q):tD K fa σ H λx O=>Nv K fr σ O λxs H2=>Q (x::xs) H2:=by
 obtain⟨B,ρ,ds,s,r,e,q⟩:=h;obtain⟨x,ex,e⟩:=oX e;obtain⟨y,U,e⟩:=oX e;cases e
 exact⟨B,ρ,x.1,x.2,s,r,ex,λv O N M a _=>⟨N,ρ,y,M.nh,r.mono M.bn,U,λvs H2 N2 T b=>q _ H2 N2 (M.trans T) (.cons (a.mono T.bn) b)⟩⟩
@[simp] noncomputable def bw (f:FE):FT:=λρ=>match f ρ with|some (.bl c,_)=>some c|_=>none
@[simp] noncomputable def fF (f g:FT):FT:=λρ=>match f ρ with|some true=>g ρ|some false=>some false|none=>none
@[simp] noncomputable def jm (f g:FT):FT:=λρ=>match f ρ with|some true=>some true|some false=>g ρ|none=>none
@[simp] noncomputable def eX (f:FT):FT:=λρ=>(f ρ).map (!·)
open Classical in
noncomputable def eE (H:Hp)(P:Addr->Prop):Hp:=λa=>if P a then none else H a
theorem da (h:¬P a):eE H P a=H a:=by unfold eE;rw[if_neg h]
theorem zQ (h:P a):eE H P a=none:=by unfold eE;rw[if_pos h]
theorem qc (h:eE H P a=some o):¬P a/\H a=some o:=by
 by_cases q:P a
 ·rw[zQ q]at h;cases h
 ·rw[da q]at h;exact⟨q,h⟩
theorem bV:aT (eE H P) H:=λ_ _ e=>(qc e).2
theorem eY (e:∀a o,H a=some o->¬P a->H' a=some o/\¬M a):aT (eE H P) (eE H' M):=λa o q=>by
 obtain⟨h1,h2⟩:=qc q;obtain⟨h3,h4⟩:=e a o h2 h1;rw[da h4];exact h3
noncomputable def join (N N':Hp):Hp:=λa=>match N a with|some o=>some o|none=>N' a
theorem fy:aT N (join N N'):=λa o e=>by unfold join;rw[e]
theorem eI (e:N a=none):join N N' a=N' a:=by unfold join;rw[e]
def own (σ:St)(ρ:Env)(a:Addr):Prop:=∃(i:Nat)(d:D),ρ[i]? = some (some (d,true))/\σ[i]? = some (some (V.ref a))
inductive Bx (K:Frag)(C:Hp):HO->D->Prop where
 |lst {vs:List V}{ds:List D}(h:IsL K C vs ds):Bx K C (.lst vs) (.lst ds)
 |dk {ks:List dO}{vs:List V}{ds:List D}(hl:ks.length=vs.length) (h:IsL K C vs ds) {ob:Obj}:Bx K C (.dK (ks.zip vs) ob) (.dk ks ds)
 |dt {ks:List (List dO)}{vs:List V}{ds:List D}(hl:ks.length=vs.length) (h:IsL K C vs ds):Bx K C (.dT (ks.zip vs)) (.dt ks ds)
theorem Bx.mono (h:Bx K C o d)(e:aT C M):Bx K M o d:=by
 cases h with
 |lst h=>exact .lst (h.mono e)
 |dk hl h=>exact .dk hl (h.mono e)
 |dt hl h=>exact .dt hl (h.mono e)
theorem Bx.is (h:Bx K C o d)(e:C a=some o):Is K C (.ref a) d:=by
 cases h with
 |lst h=>exact .lst (fx.of e) h
 |dk hl h=>exact .dk e hl h
 |dt hl h=>exact .dt e hl h
structure eO (K:Frag)(B0 H0 N H:Hp)(σ:St)(ρ:Env):Prop where
 bh:aT B0 H0
 tb:Tb K B0
 ext:Ext B0 N H0 H
 len:ρ.length=σ.length
 sh:∀(i:Nat)(d:D),ρ[i]? = some (some (d,false))->∃v,σ[i]? = some (some v)/\Is K (eE N (own σ ρ)) v d
 ow:∀(i:Nat)(d:D),ρ[i]? = some (some (d,true))->∃(a:Addr)(o:HO),σ[i]? = some (some (V.ref a))/\N a=some o/\H0 a=none/\Bx K (eE N (own σ ρ)) o d
 inj:∀(i j:Nat)(a:Addr)(d e:D),ρ[i]? = some (some (d,true))->ρ[j]? = some (some (e,true))->σ[i]? = some (some (V.ref a))->σ[j]? = some (some (V.ref a))->i=j
def vz (K:Frag)(B0 H0 H:Hp)(σ:St)(ρ:Env):Prop:=∃N,eO K B0 H0 N H σ ρ
section
variable {K:Frag}{B0 H0 N H H':Hp}{σ:St}{ρ:Env}
theorem eO.owL (s:eO K B0 H0 N H σ ρ)(i:Nat)(d:D)(q:ρ[i]? = some (some (.lst es,true)))(hd:d=.lst es:=by rfl):∃(a:Addr)(vs:LV)(ds:LD),d=.lst ds/\σ[i]? = some (some (V.ref a))/\N a=some (.lst vs)/\H0 a=none/\IsL K (eE N (own σ ρ)) vs ds:=by
 obtain⟨a,o,h1,h2,h3,h4⟩:=s.ow i _ q;cases h4 with
 |lst h4=>exact⟨a,_,es,hd,h1,h2,h3,h4⟩
def boxed:HO->Prop
 |.lst _|.dK _ _|.dT _=>True
 |_=>False
theorem Bx.boxed (h:Bx K C o d):boxed o:=by cases h<;>exact trivial
theorem eO.owned (s:eO K B0 H0 N H σ ρ)(h:own σ ρ a):∃o,(N a=some o/\boxed o)/\H0 a=none:=by
 obtain⟨i,d,h1,h2⟩:=h;obtain⟨O,o,h3,h4,h5,M⟩:=s.ow i d h1;rw[h2]at h3;cases h3;exact⟨o,⟨h4,M.boxed⟩,h5⟩
theorem eO.rep (s:eO K B0 H0 N H σ ρ):eU K N σ ρ:=⟨s.tb.mono s.ext.bn,λi d b q=>by
 cases b with
 |false=>obtain⟨v,h1,h2⟩:=s.sh i d q;exact⟨v,h1,h2.mono bV⟩
 |true=>
  obtain⟨a,o,h2,h3,_,h4⟩:=s.ow i d q;exact⟨_,h2,(h4.mono bV).is h3⟩⟩
noncomputable def ly (ρ:Env):Env:=ρ.map λx=>match x with|some (d,false)=>some (d,false)|_=>none
theorem Ew {i:Nat}{d:D}{b:Bool}(h:(ly ρ)[i]? = some (some (d,b))):b=false/\ρ[i]? = some (some (d,false)):=by
 unfold ly at h;rw[vA]at h;cases e:ρ[i]? with
 |none=>rw[e]at h;cases h
 |some x=>
  rw[e]at h;match x,h with
  |some (d',false),h=>cases h;exact⟨rfl,rfl⟩
  |some (d',true),h=>cases h
  |none,h=>cases h
theorem eO.tbC (s:eO K B0 H0 N H σ ρ):Tb K (eE N (own σ ρ)):=λx hx c P q=>by
 have z:=s.tb.mono s.ext.bn x hx c P q;rw[da]
 ·exact z
 ·intro y;obtain⟨o,⟨y,M⟩,_⟩:=s.owned y;rw[z]at y;cases y;exact M
theorem eO.repH (s:eO K B0 H0 N H σ ρ):eU K (eE N (own σ ρ)) σ (ly ρ):=⟨s.tbC,λi d b q=>by
 obtain⟨rfl,M⟩:=Ew q;exact s.sh i d M⟩
theorem eO.grow (s:eO K B0 H0 N H σ ρ)(x:Ext N N' H H'):eO K B0 H0 N' H' σ ρ:=by
 have c:aT (eE N (own σ ρ)) (eE N' (own σ ρ)):=eY λa o e q=>⟨x.bn a o e,q⟩;refine⟨s.bh,s.tb,s.ext.trans x,s.len,λi d q=>?_,λi d q=>?_,s.inj⟩
 ·obtain⟨v,h1,h2⟩:=s.sh i d q;exact⟨v,h1,h2.mono c⟩
 ·obtain⟨a,o,h2,h3,h4,h5⟩:=s.ow i d q;exact⟨a,o,h2,x.bn _ _ h3,h4,h5.mono c⟩
theorem eO.growH (s:eO K B0 H0 N H σ ρ)(x:Ext (eE N (own σ ρ)) N' H H'):eO K B0 H0 (join N N') H' σ ρ/\aT N' (eE (join N N') (own σ ρ)):=by
 have O:Ext N (join N N') H H':=by
  refine⟨x.hh,fy,λa o e=>?_,λa o e=>?_⟩
  ·cases q:N a with
   |some u=>
    have:join N N' a=some u:=fy _ _ q;rw[this]at e;cases e;exact x.hh _ _ (s.ext.nh _ _ q)
   |none=>rw[eI q]at e;exact x.nh _ _ e
  ·cases q:N a with
   |some u=>
    have:join N N' a=some u:=fy _ _ q;rw[this]at e;cases e;exact .inl rfl
   |none=>
    rw[eI q]at e;rcases x.new a o e with z|z
    ·have:=bV _ _ z;rw[q]at this;cases this
    ·exact .inr z
 refine⟨s.grow O,λa o e=>?_⟩;rcases x.new a o e with z|z
 ·obtain⟨T,U⟩:=qc z;rw[da T];exact fy _ _ U
 ·have M:N a=none:=s.ext.nh.free z;have:¬own σ ρ a:=λq=>by obtain⟨vs,⟨q,_⟩,_⟩:=s.owned q;rw[M]at q;cases q
  rw[da this,eI M];exact e
noncomputable def unown (ρ:Env):Env:=ρ.map λx=>x.map λy=>(y.1,false)
theorem kU {i:Nat}{d:D}{b:Bool}(h:(unown ρ)[i]? = some (some (d,b))):b=false/\∃c,ρ[i]? = some (some (d,c)):=by
 unfold unown at h;rw[vA]at h;cases e:ρ[i]? with
 |none=>rw[e]at h;cases h
 |some x=>
  rw[e]at h;match x,h with
  |some (d',c),h=>cases h;exact⟨rfl,c,rfl⟩
  |none,h=>cases h
theorem tK {a:Addr}:¬own σ (unown ρ) a:=λ⟨i,d,h,_⟩=>by
 obtain⟨z,_⟩:=kU h;cases z
theorem eO.unown (s:eO K B0 H0 N H σ ρ):eO K B0 H0 N H σ (unown ρ):=by
 refine⟨s.bh,s.tb,s.ext,by unfold DL.unown;rw[vI];exact s.len,λi d q=>?_,λi d q=>?_,λi j a d e q=>?_⟩
 ·obtain⟨_,c,q⟩:=kU q;obtain⟨v,h1,h2⟩:=s.rep.at' i d c q;exact⟨v,h1,h2.mono λa o e=>by rw[da tK];exact e⟩
 ·obtain⟨z,_⟩:=kU q;cases z
 ·obtain⟨z,_⟩:=kU q;cases z
theorem cx {α:Type}{l:List α}{i j:Nat}{x y:α}(h:(l.set i x)[j]? = some y):(i=j/\x=y)\/(i≠j/\l[j]? = some y):=by
 by_cases e:i=j
 ·subst e;rw[List.getElem?_set]at h;split at h
  ·split at h
   ·exact .inl ⟨rfl,vK h⟩
   ·cases h
  ·contradiction
 ·rw[vB e]at h;exact .inr ⟨e,h⟩
theorem tL {α M:Type}{l:List α}{m:List M}{i:Nat}{x y:α}(h:(l.set i x)[i]? = some y)(e:l.length=m.length):i<m.length:=by
 obtain⟨h,_⟩:=vV h;rw[length_set]at h;lia
theorem wa {i:Nat}{v:V}{x:OB}{a:Addr}(h:own (σ.set i (some v)) (ρ.set i x) a):(v=.ref a/\∃d,x=some (d,true))\/∃j,j≠i/\∃d,ρ[j]? = some (some (d,true))/\σ[j]? = some (some (V.ref a)):=by
 obtain⟨j,d,h1,h2⟩:=h;rcases cx h1 with⟨e,q⟩|⟨e,q⟩
 ·rcases cx h2 with⟨e2,M⟩|⟨e2,M⟩
  ·cases M;exact .inl ⟨rfl,d,q⟩
  ·exact absurd e e2
 ·rcases cx h2 with⟨e2,M⟩|⟨e2,M⟩
  ·exact absurd e2 e
  ·exact .inr ⟨j,λz=>e z.symm,d,q,M⟩
theorem eO.bind (s:eO K B0 H0 N H σ ρ){i:Nat}{v:V}{d:D}(h:Is K (eE N (own σ ρ)) v d):eO K B0 H0 N H (σ.set i (some v)) (ρ.set i (some (d,false))):=by
 have o:∀a,own (σ.set i (some v)) (ρ.set i (some (d,false))) a->own σ ρ a:=λa q=>by
  rcases wa q with⟨_,d',p⟩|⟨j,_,d',T,U⟩
  ·cases p
  ·exact⟨j,d',T,U⟩
 have c:aT (eE N (own σ ρ)) (eE N (own (σ.set i (some v)) (ρ.set i (some (d,false))))):=eY λa u e q=>⟨e,λz=>q (o a z)⟩;refine⟨s.bh,s.tb,s.ext,by simp[s.len],λj e q=>?_,λj e q=>?_,λj k a e f q b h1 h2=>?_⟩
 ·rcases cx q with⟨rfl,p⟩|⟨ne,p⟩
  ·cases p
   have hi:=tL q s.len;exact⟨v,by simp[hi],h.mono c⟩
  ·obtain⟨w,h1,h2⟩:=s.sh j e p;exact⟨w,by rw[vB ne];exact h1,h2.mono c⟩
 ·rcases cx q with⟨rfl,p⟩|⟨ne,p⟩
  ·cases p
  ·obtain⟨a,o,h1,h2,h3,h4⟩:=s.ow j e p;exact⟨a,o,by rw[vB ne];exact h1,h2,h3,h4.mono c⟩
 ·rcases cx q with⟨rfl,p⟩|⟨ne,p⟩
  ·cases p
  ·rcases cx b with⟨rfl,M⟩|⟨O,M⟩
   ·cases M
   ·rw[vB ne]at h1;rw[vB O]at h2;exact s.inj j k a e f p M h1 h2
theorem eO.bindOwn (s:eO K B0 H0 N H σ ρ){i:Nat}{a:Addr}{ob:HO}{dd:D}(h:N a=some ob)(h0:H0 a=none)(O:∀(j:Nat)(d:D),ρ[j]? = some (some (d,true))->σ[j]? ≠ some (some (V.ref a)))
  (l:∀(j:Nat)(d:D),j≠i->ρ[j]? = some (some (d,false))->∃v,σ[j]? = some (some v)/\Is K (eE N (λb=>own σ ρ b\/b=a)) v d) (m:∀(j:Nat)(d:D),j≠i->ρ[j]? = some (some (d,true))->∃(T:Addr)(o:HO),σ[j]? = some (some (V.ref T))/\N T=some o/\Bx K (eE N (λb=>own σ ρ b\/b=a)) o d)
  (n:Bx K (eE N (λb=>own σ ρ b\/b=a)) ob dd):eO K B0 H0 N H (σ.set i (some (.ref a))) (ρ.set i (some (dd,true))):=by
 have o:∀b,own (σ.set i (some (V.ref a))) (ρ.set i (some (dd,true))) b->own σ ρ b\/b=a:=λb q=>by
  rcases wa q with⟨p,_⟩|⟨j,_,d',r,t⟩
  ·cases p;exact .inr rfl
  ·exact .inl ⟨j,d',r,t⟩
 have c:aT (eE N (λb=>own σ ρ b\/b=a)) (eE N (own (σ.set i (some (V.ref a))) (ρ.set i (some (dd,true))))):=eY λb u e q=>⟨e,λz=>q (o b z)⟩;refine⟨s.bh,s.tb,s.ext,by simp[s.len],λj e q=>?_,λj e q=>?_,λj k b e f q g h1 h2=>?_⟩
 ·rcases cx q with⟨rfl,p⟩|⟨ne,p⟩
  ·cases p
  ·obtain⟨w,h1,h2⟩:=l j e (Ne.symm ne) p;exact⟨w,by rw[vB ne];exact h1,h2.mono c⟩
 ·rcases cx q with⟨rfl,p⟩|⟨ne,p⟩
  ·cases p
   have hi:=tL q s.len;exact⟨a,ob,by simp[hi],h,h0,n.mono c⟩
  ·obtain⟨T,o',h1,h2,h4⟩:=m j e (Ne.symm ne) p;have h3:H0 T=none:=by
    obtain⟨B,_,k1,_,x,_⟩:=s.ow j e p;rw[h1]at k1;cases k1;exact x
   exact⟨T,o',by rw[vB ne];exact h1,h2,h3,h4.mono c⟩
 ·rcases cx q with⟨rfl,p⟩|⟨ne,p⟩
  ·rcases cx g with⟨rfl,U⟩|⟨M,U⟩
   ·rfl
   ·rw[vB M]at h2;have y:V.ref a=V.ref b:=by
     rcases cx h1 with⟨_,z⟩|⟨z,_⟩
     ·exact vK z
     ·exact absurd rfl z
    cases y
    exact absurd h2 (O k f U)
  ·rcases cx g with⟨rfl,U⟩|⟨M,U⟩
   ·rw[vB ne]at h1;have A:V.ref a=V.ref b:=by
     rcases cx h2 with⟨_,z⟩|⟨z,_⟩
     ·exact vK z
     ·exact absurd rfl z
    cases A
    exact absurd h1 (O j e p)
   ·rw[vB ne]at h1;rw[vB M]at h2;exact s.inj j k b e f p U h1 h2
end
inductive Res where
 |nx (ρ:Env)|rt (d:D) (b:Bool)|bk (ρ:Env)|ct (ρ:Env)
abbrev FS:=Env->Option Res
def O5 (K:Frag)(B0 H0:Hp)(E:Ends):Res->Prop
 |.nx ρ=>∀σ H,vz K B0 H0 H σ ρ->E.nx σ H
 |.rt d b=>∀v H N,Ext B0 N H0 H->Is K N v d->(b=true->Nu K H0 N v d)->E.rt v H
 |.bk ρ=>∀σ H,vz K B0 H0 H σ ρ->E.bk σ H
 |.ct ρ=>∀σ H,vz K B0 H0 H σ ρ->E.ct σ H
def ny (K:Frag)(g:FS):TS:=λE σ H=>∃(B0 H0:Hp)(ρ:Env)(r:Res),vz K B0 H0 H σ ρ/\g ρ=some r/\O5 K B0 H0 E r
section
variable {K:Frag}{B0 H0 N H H':Hp}{σ:St}{ρ:Env}{E:Ends}
theorem eO.writeB (s:eO K B0 H0 N H σ ρ)(hi:ρ[i]? = some (some (d,true)))(M:σ[i]? = some (some (V.ref a)))(h:Bx K (eE N (own σ ρ)) ob dd):
  eO K B0 H0 (upd N a ob) (upd H a ob) σ (ρ.set i (some (dd,true))):=by
 have g:own σ ρ a:=⟨i,d,hi,M⟩;obtain⟨w,hw,h0⟩:=s.owned g;have m:B0 a=none:=s.bh.free h0;have o:∀b,own σ (ρ.set i (some (dd,true))) b↔own σ ρ b:=λb=>by
  constructor
  ·rintro⟨j,e,T,O⟩;rcases cx T with⟨rfl,p⟩|⟨_,p⟩
   ·exact⟨i,d,hi,O⟩
   ·exact⟨j,e,p,O⟩
  ·rintro⟨j,e,T,O⟩;by_cases z:i=j
   ·subst z;exact⟨i,dd,by rw[List.getElem?_set_self (vV hi).1],O⟩
   ·exact⟨j,e,by rw[vB z];exact T,O⟩
 have c:aT (eE N (own σ ρ)) (eE (upd N a ob) (own σ (ρ.set i (some (dd,true))))):=eY λb u e q=>by
  have ne:b≠a:=λz=>q (z ▸ g);exact⟨by rw[aD ne];exact e,λz=>q ((o b).mp z)⟩
 refine⟨s.bh,s.tb,⟨λb u e=>?_,λb u e=>?_,λb u e=>?_,λb u e=>?_⟩,by rw[length_set];exact s.len,λj e q=>?_,λj e q=>?_,λj k b e f q n h1 h2=>?_⟩
 ·rw[aD (λz=>by subst z;rw[h0]at e;cases e)];exact s.ext.hh _ _ e
 ·rw[aD (λz=>by subst z;rw[m]at e;cases e)];exact s.ext.bn _ _ e
 ·by_cases z:b=a
  ·subst z;rw[aA]at e |-;exact e
  ·rw[aD z]at e |-;exact s.ext.nh _ _ e
 ·by_cases z:b=a
  ·subst z;exact .inr h0
  ·rw[aD z]at e;exact s.ext.new _ _ e
 ·rcases cx q with⟨rfl,p⟩|⟨ne,p⟩
  ·cases p
  ·obtain⟨v,h1,h2⟩:=s.sh j e p;exact⟨v,h1,h2.mono c⟩
 ·rcases cx q with⟨rfl,p⟩|⟨ne,p⟩
  ·cases p
   exact⟨a,ob,M,aA,h0,h.mono c⟩
  ·obtain⟨l,o',h1,h2,h3,h4⟩:=s.ow j e p;have r:l≠a:=λz=>by subst z;exact ne (s.inj i j _ d e hi p M h1)
   exact⟨l,o',h1,by rw[aD r];exact h2,h3,h4.mono c⟩
 ·have get:∀ {j:Nat}{e:D},(ρ.set i (some (dd,true)))[j]? = some (some (e,true))->∃U,ρ[j]? = some (some (U,true)):=λ{j e} q=>by
   rcases cx q with⟨rfl,p⟩|⟨ne,p⟩
   ·exact⟨d,hi⟩
   ·exact⟨e,p⟩
  obtain⟨U,T⟩:=get q;obtain⟨t,O⟩:=get n;exact s.inj j k b U t T O h1 h2
theorem eO.write (s:eO K B0 H0 N H σ ρ)(hi:ρ[i]? = some (some (d,true)))(M:σ[i]? = some (some (V.ref a)))(h:IsL K (eE N (own σ ρ)) vs ds):
  eO K B0 H0 (upd N a (.lst vs)) (upd H a (.lst vs)) σ (ρ.set i (some (.lst ds,true))):=s.writeB hi M (.lst h)
theorem eO.tups (s:eO K B0 H0 N H σ ρ):∀a vs,ji K N a vs->ji K (eE N (own σ ρ)) a vs:=λa vs h=>by
 have M:∀u,N a=some u->¬boxed u->eE N (own σ ρ) a=some u:=λu e hu=>by
  rw[da λz=>?_];exact e;obtain⟨T,⟨q,O⟩,_⟩:=s.owned z;rw[e]at q;cases q;exact hu O
 rcases h with (h|⟨o,h⟩)|h
 ·exact .inl (.inl (M _ h (λq=>q)))
 ·exact .inl (.inr ⟨o,M _ h (λq=>q)⟩)
 ·exact .inr h
theorem eO.flat (s:eO K B0 H0 N H σ ρ)(h:Is K N v d)(n:bB d=true):Is K (eE N (own σ ρ)) v d:=h.keepT s.tups n
theorem eO.rebase (s:eO K B0 H0 N H σ ρ):eO K (eE N (own σ ρ)) (eE H (own σ ρ)) N H σ ρ :=
 ⟨eY λa o e q=>⟨s.ext.nh _ _ e,q⟩,s.tbC,⟨bV,bV,s.ext.nh,λa o e=>by
  by_cases q:own σ ρ a
  ·exact .inr (zQ q)
  ·exact .inl (by rw[da q];exact e)⟩,s.len,s.sh,λi d q=>by
   obtain⟨a,o,h1,h2,_,h4⟩:=s.ow i d q;exact⟨a,o,h1,h2,zQ ⟨i,d,q,h1⟩,h4⟩,s.inj⟩
theorem eO.unbase (s:eO K B0 H0 N H σ ρ)(t:eO K (eE N (own σ ρ)) (eE H (own σ ρ)) N' H' O ρ'):eO K B0 H0 N' H' O ρ':=by
 have h0:aT H0 (eE H (own σ ρ)):=λa o e=>by
  rw[da λz=>?_];exact s.ext.hh _ _ e;obtain⟨_,_,q⟩:=s.owned z;rw[q]at e;cases e
 have M:aT B0 (eE N (own σ ρ)):=λa o e=>by
  rw[da λz=>?_];exact s.ext.bn _ _ e;obtain⟨_,_,q⟩:=s.owned z;rw[s.bh _ _ e]at q;cases q
 refine⟨s.bh,s.tb,⟨h0.trans t.ext.hh,M.trans t.ext.bn,t.ext.nh,λa o e=>?_⟩,t.len,t.sh,λi d q=>?_,t.inj⟩
 ·rcases t.ext.new a o e with z|z
  ·exact s.ext.new a o (bV _ _ z)
  ·exact .inr (h0.free z)
 ·obtain⟨a,o,h1,h2,h3,h4⟩:=t.ow i d q;exact⟨a,o,h1,h2,h0.free h3,h4⟩
theorem eO.based (t:eO K B0 H0 N H σ ρ):aT B0 (eE N (own σ ρ)):=λa o e=>by
 rw[da λz=>?_];exact t.ext.bn _ _ e;obtain⟨_,_,q⟩:=t.owned z;rw[t.bh _ _ e]at q;cases q
@[simp] noncomputable def aF (g h:FS):FS:=λρ=>match g ρ with|some (.nx ρ')=>h ρ'|r=>r
@[simp] noncomputable def bx:FS:=λρ=>some (.nx ρ)
@[simp] noncomputable def eZ (c:FT)(g h:FS):FS:=λρ=>match c ρ with|some true=>g ρ|some false=>h ρ|none=>none
@[simp] noncomputable def ba (f:FE):FS:=λρ=>(f ρ).map λx=>.rt x.1 x.2
@[simp] noncomputable def Kk:D->Bool
 |.dk _ _=>true
 |.dt _ _=>true
 |_=>false
@[simp] def jn (i:Nat):FS:=λρ=>match ρ[i]? with|some (some (d,b))=>some (.rt d (b && !Kk d))|_=>none
@[simp] def xN:D->Bool
 |.lst ds=>bE ds
 |_=>false
@[simp] def setE (ρ:Env)(i:Nat)(d:D)(b:Bool):Env :=
 if bB d=true then ρ.set i (some (d,false))else if b=true/\xN d=true then ρ.set i (some (d,true))else (unown ρ).set i (some (d,false))
@[simp] def aW (i:Nat)(f:FE):FS:=λρ=>(f ρ).map λx=>.nx (setE ρ i x.1 x.2)
@[simp] def xO (i:Nat)(f:FE):FS:=λρ=>(f (ly ρ)).map λx=>.nx (ρ.set i (some (x.1,false)))
@[simp] def km (i:Nat)(f:FE):FS:=λρ=>match ρ[i]? with
 |some (some (.lst ds,true))=>(f ρ).bind λx=>if bB x.1=true/\ds.length<sizeLine then some (.nx (ρ.set i (some (.lst (ds++[x.1]),true))))else none
 |_=>none
theorem HM (q:ny K (aF g h) E σ H):Lf (ny K g) (ny K h) E σ H:=by
 obtain⟨B0,H0,ρ,r,s,e,p⟩:=q;unfold aF at e;cases M:g ρ with
 |none=>rw[M]at e;cases e
 |some O=>
  rw[M]at e;cases O with
  |nx ρ'=>exact⟨B0,H0,ρ,.nx ρ',s,M,λT H' s'=>⟨B0,H0,ρ',r,s',e,p⟩⟩
  |rt d b=>cases e;exact⟨B0,H0,ρ,_,s,M,p⟩
  |bk ρ'=>cases e;exact⟨B0,H0,ρ,_,s,M,p⟩
  |ct ρ'=>cases e;exact⟨B0,H0,ρ,_,s,M,p⟩
theorem Ex (q:ny K bx E σ H):Ka E σ H:=by
 obtain⟨B0,H0,ρ,r,s,e,p⟩:=q;cases e
 exact p σ H s
theorem vz.grown (s:eO K B0 H0 N H σ ρ)(h:aT H H'):vz K B0 H0 H' σ ρ:=⟨N,s.grow (.grow s.ext.nh h)⟩
theorem LF (q:ny K (eZ c g h) E σ H):Oa (CL K c) (ny K g) (ny K h) E σ H:=by
 obtain⟨B0,H0,ρ,r,⟨N,s⟩,e,p⟩:=q;unfold eZ at e;cases M:c ρ with
 |none=>rw[M]at e;cases e
 |some b=>
  rw[M]at e;refine⟨N,ρ,b,s.ext.nh,s.rep,M,λO h1=>?_⟩;cases b with
  |true=>rw[if_pos rfl];exact⟨B0,H0,ρ,r,.grown s h1,e,p⟩
  |false=>rw[if_neg (by decide)];exact⟨B0,H0,ρ,r,.grown s h1,e,p⟩
theorem HN (q:ny K (ba f) E σ H):Lg (tD K f) E σ H:=by
 obtain⟨B0,H0,ρ,r,⟨N,s⟩,e,p⟩:=q;obtain⟨x,ex,e⟩:=oY e;subst e;exact⟨N,ρ,x.1,x.2,s.ext.nh,s.rep,ex,λv M N1 O T f1=>p v M N1 (s.ext.trans O) T λb=>(f1 b).back s.ext.hh⟩
theorem Ey (q:ny K (jn i) E σ H):Lg (pP i) E σ H:=by
 obtain⟨B0,H0,ρ,r,⟨N,s⟩,e,p⟩:=q;unfold jn at e;split at e
 ·rename_i d b ei;cases e
  cases b with
  |false=>
   obtain⟨v,h1,h2⟩:=s.sh i d ei;exact⟨v,h1,p v H N s.ext (h2.mono bV) (by simp)⟩
  |true=>
   obtain⟨a,o,h1,h2,h3,h4⟩:=s.ow i d ei;cases h4 with
   |lst h4=>exact⟨_,h1,p _ H N s.ext (.lst (fx.of h2) (h4.mono bV)) λ_=>⟨a,_,_,rfl,rfl,h3,h2,h4.mono bV⟩⟩
   |dk hl h4=>exact⟨_,h1,p _ H N s.ext (.dk h2 hl (h4.mono bV)) (by simp)⟩
   |dt hl h4=>exact⟨_,h1,p _ H N s.ext (.dt h2 hl (h4.mono bV)) (by simp)⟩
 ·cases e
theorem eO.setE (s:eO K B0 H0 N H σ ρ)(x:Ext N N1 H H1)(h:Is K N1 v d)(f:b=true->Nu K H N1 v d):eO K B0 H0 N1 H1 (σ.set i (some v)) (setE ρ i d b):=by
 have s1:=s.grow x;unfold DL.setE;by_cases hn:bB d=true
 ·rw[if_pos hn];exact s1.bind (s1.flat h hn)
 ·rw[if_neg hn];by_cases hb:b=true/\xN d=true
  ·rw[if_pos hb];obtain⟨a,vs,ds,rfl,rfl,ha,T,hs⟩:=f hb.1;have M:N a=none:=s.ext.nh.free ha;have U:¬own σ ρ a:=λz=>by obtain⟨g,⟨q,_⟩,_⟩:=s.owned z;rw[M]at q;cases q
   have c:aT (eE N (own σ ρ)) (eE N1 (λb=>own σ ρ b\/b=a)):=eY λb u e q=>⟨x.bn _ _ e,λz=>z.elim q λz=>by subst z;rw[M]at e;cases e⟩;refine s1.bindOwn T (s.ext.hh.free ha) (λj e q z=>U ⟨j,e,q,z⟩) (λj e _ q=>?_) (λj e _ q=>?_) (.lst (hs.keepT (λt m st=>?_) hb.2))
   ·obtain⟨w,h1,h2⟩:=s.sh j e q;exact⟨w,h1,h2.mono c⟩
   ·obtain⟨k,o',h1,h2,_,h4⟩:=s.ow j e q;exact⟨k,o',h1,x.bn _ _ h2,h4.mono c⟩
   ·have O:∀u,N1 t=some u->¬boxed u->eE N1 (λb=>own σ ρ b\/b=a) t=some u:=λu e hu=>by
     rw[da λz=>?_];exact e;rcases z with z|z
     ·obtain⟨g,⟨q,l⟩,_⟩:=s1.owned z;rw[e]at q;cases q;exact hu l
     ·subst z;rw[e]at T;cases T;exact hu trivial
    rcases st with (st|⟨o,st⟩)|st
    ·exact .inl (.inl (O _ st (λq=>q)))
    ·exact .inl (.inr ⟨o,O _ st (λq=>q)⟩)
    ·exact .inr st
  ·rw[if_neg hb];exact s1.unown.bind (h.mono λa o e=>by rw[da tK];exact e)
theorem AR (q:ny K (aW i f) E σ H):xD (tD K f) (gZ i) E σ H:=by
 obtain⟨B0,H0,ρ,r,⟨N,s⟩,e,p⟩:=q;obtain⟨x,ex,e⟩:=oY e;subst e;exact⟨N,ρ,x.1,x.2,s.ext.nh,s.rep,ex,λv M N1 O T f1=>p _ M ⟨N1,s.setE O T f1⟩⟩
theorem Ez (q:ny K (xO i f) E σ H):xD (tD K f) (gZ i) E σ H:=by
 obtain⟨B0,H0,ρ,r,⟨N,s⟩,e,p⟩:=q;obtain⟨x,ex,e⟩:=oY e;subst e;refine⟨eE N (own σ ρ),ly ρ,x.1,x.2,bV.trans s.ext.nh,s.repH,ex,λv M N1 O T f1=>?_⟩;obtain⟨s1,c⟩:=s.growH O;exact p _ M ⟨_,s1.bind (T.mono c)⟩
theorem HP (q:ny K (km i f) E σ H):∃(a:Addr)(us:LV),σ[i]? = some (some (V.ref a))/\H a=some (.lst us)/\Kf (tD K f) Op σ H λxs H2=>AM (.ref a) xs H2 λ_ T=>E.nx σ T:=by
 obtain⟨B0,H0,ρ,r,⟨N,s⟩,e,p⟩:=q;unfold km at e;split at e
 ·rename_i ds ei;obtain⟨x,ex,e⟩:=oX e;split at e
  ·rename_i hx;cases e
   obtain⟨a,vs,M,z,h1,h2,h3,h4⟩:=s.owL i _ ei;cases z
   refine⟨a,vs,h1,s.ext.nh _ _ h2,N,ρ,x.1,x.2,s.ext.nh,s.rep,ex,λv c N1 O U f1=>⟨a,vs,v,rfl,rfl,O.hh _ _ (s.ext.nh _ _ h2),by rw[h4.length];exact hx.2,?_⟩⟩;have s1:=s.grow O;obtain⟨d,g,M,z,k1,k2,_,b⟩:=s1.owL i _ ei;cases z
   rw[h1]at k1;cases k1;rw[O.bn _ _ h2]at k2;cases k2;exact p σ _ ⟨_,s1.write ei h1 (b.append (.cons (s1.flat U hx.1) .nil))⟩
  ·cases e
 ·cases e
end
def lL (K:Frag)(J:It)(B:Hp)(ds:LD):Prop:=∀(i:Nat)(H:Hp),aT B H ->
 (∀d,ds[i]? = some d->J.go i H/\∀x H',J.yld i H x H'->∃N,Ext B N H H'/\Is K N x d)/\(ds.length<=i->J.stop i H)
def Ul (K:Frag)(f:FA):TI:=λσ H R=>∃(B:Hp)(ρ:Env)(ds:LD),aT B H/\eU K B σ ρ/\f ρ=some ds/\∀(J:It)(H' N:Hp),Ext B N H H'->lL K J N ds->R J H'
abbrev FG:=D->Env->Option Env
def HQ (K:Frag)(tg:FG)(g:TG):Prop:=∀(B0 H0 N H:Hp)(σ:St)(ρ ρ':Env)(v:V)(d:D)(Q:St->Hp->Prop),eO K B0 H0 N H σ ρ->Is K (eE N (own σ ρ)) v d->tg d ρ=some ρ' ->
 (∀M H',vz K B0 H0 H' M ρ'->Q M H')->g v σ H Q
@[simp] noncomputable def dj (i:Nat):FG:=λd ρ=>some (ρ.set i (some (d,false)))
theorem hJ:HQ K (dj i) (gZ i):=by
 intro B0 H0 N H σ ρ ρ' v d Q s h e k;cases e
 exact k _ H ⟨N,s.bind h⟩
noncomputable def jo (tg:FG)(g:FS):LD->Env->Option Res
 |[],ρ=>some (.nx ρ)
 |d::ds,ρ=>(tg d ρ).bind λM=>match g M with
  |some (.nx ρ')=>jo tg g ds ρ'
  |some (.ct ρ')=>jo tg g ds ρ'
  |some (.bk ρ')=>some (.nx ρ')
  |r=>r
@[simp] theorem E2 (tg:FG)(g:FS)(ρ:Env):jo tg g [] ρ=some (.nx ρ):=by rw[jo]
@[simp] theorem CN (tg:FG)(g:FS)(d:D)(ds:LD)(ρ:Env):jo tg g (d::ds) ρ=(tg d ρ).bind λM=>match g M with
  |some (.nx ρ')=>jo tg g ds ρ'
  |some (.ct ρ')=>jo tg g ds ρ'
  |some (.bk ρ')=>some (.nx ρ')
  |r=>r:=by rw[jo]
@[simp] def sV (f:FA)(tg:FG)(g:FS):FS:=λρ=>(f (ly ρ)).bind λds=>jo tg g ds ρ
theorem xP (A:HQ K tg t)(s1:eO K B0 H0 N H1 σ ρ)(c:aT N1 (eE N (own σ ρ)))(B:lL K J N1 ds)(e:jo tg g ds ρ=some r)(p:O5 K B0 H0 E r):
  ∃W:Nat->Nat->St->Hp->Prop,(∃m,W 0 m σ H1)/\∀i m σ H,W i m σ H->(J.stop i H/\E.nx σ H)\/(J.go i H/\∃N:St->Hp->Prop,(∀M H',N M H'->∃k,k<m/\W (i+1) k M H')/\∀x H',J.yld i H x H'->t x σ H' λU H2=>ny K g { E with nx:=N,ct:=N,bk:=E.nx } U H2):=by
 refine⟨λi m σ H=>∃(N:Hp)(ρ:Env),eO K B0 H0 N H σ ρ/\aT N1 (eE N (own σ ρ))/\m=ds.length - i/\i<=ds.length/\jo tg g (ds.drop i) ρ=some r,⟨ds.length,_,ρ,s1,c,rfl,uN _,e⟩,?_⟩;clear e s1 c;rintro i m σ H ⟨N,ρ,s,c,rfl,hi,e⟩;have hs:aT N1 H:=c.trans (bV.trans s.ext.nh);obtain⟨C,D⟩:=B i H hs;by_cases O:i<ds.length
 ·obtain⟨go,F⟩:=C ds[i] (by simp[O]);rw[List.drop_eq_getElem_cons O]at e;obtain⟨f,G,e⟩:=oX e;refine .inr ⟨go,λM H'=>∃(N:Hp)(ρ:Env),eO K B0 H0 N H' M ρ/\aT N1 (eE N (own M ρ))/\jo tg g (ds.drop (i+1)) ρ=some r,λM H' ⟨N',ρ',s',I,L⟩=>⟨_,by lia,N',ρ',s',I,rfl,O,L⟩,λx H' y=>?_⟩;obtain⟨N2,T,P⟩:=F x H' y;have Q:Ext (eE N (own σ ρ)) (join (eE N (own σ ρ)) N2) H H':=by
   refine⟨T.hh,fy,λa o e=>?_,λa o e=>?_⟩
   ·cases q:eE N (own σ ρ) a with
    |some u=>rw[fy _ _ q]at e;cases e;exact T.hh _ _ (s.ext.nh _ _ (bV _ _ q))
    |none=>rw[eI q]at e;exact T.nh _ _ e
   ·cases q:eE N (own σ ρ) a with
    |some u=>rw[fy _ _ q]at e;cases e;exact .inl rfl
    |none=>
     rw[eI q]at e;rcases T.new a o e with z|z
     ·rw[c _ _ z]at q;cases q
     ·exact .inr z
  obtain⟨s2,l⟩:=s.growH Q;have n:aT N2 (join (eE N (own σ ρ)) N2):=λa o e=>by
   rcases T.new a o e with z|z
   ·exact fy _ _ (c _ _ z)
   ·rw[eI ((bV.trans s.ext.nh).free z)];exact e
  have i3:=P.mono (n.trans l);have R:aT N1 (eE (join N (join (eE N (own σ ρ)) N2)) (own σ ρ)):=(T.bn.trans n).trans l;refine A _ _ _ _ _ _ _ _ _ _ s2.rebase i3 G λU H2 ⟨S,V⟩=>?_;cases j:g f with
  |none=>rw[j]at e;cases e
  |some w=>
   rw[j]at e;refine⟨_,_,f,w,⟨S,V⟩,j,?_⟩;have back:∀ {M:St}{H':Hp}{ρ':Env}{N':Hp},eO K _ _ N' H' M ρ'->eO K B0 H0 N' H' M ρ'/\aT N1 (eE N' (own M ρ')):=λt=>⟨s2.unbase t,R.trans t.based⟩;cases w with
   |nx ρ'=>exact λM H' ⟨N',t⟩=>⟨N',ρ',(back t).1,(back t).2,e⟩
   |ct ρ'=>exact λM H' ⟨N',t⟩=>⟨N',ρ',(back t).1,(back t).2,e⟩
   |bk ρ'=>cases e;exact λM H' ⟨N',t⟩=>p M H' ⟨N',(back t).1⟩
   |rt d b=>
    cases e
    intro v H' N' h X Y;have y:=s2.rebase.ext;have h0:aT H0 (eE H' (λ_=>False)):=λa o e=>by rw[da (λz=>z)];exact h.hh _ _ (by
     rw[da λz=>?_];exact s2.ext.hh _ _ e;obtain⟨_,_,q⟩:=s2.owned z;rw[q]at e;cases e)
    have Z:aT H0 (eE H' (λ_=>False)):=h0;have hH:aT H0 (eE H' (λ_=>False)):=h0;have hc:∀a,eE H' (λ_=>False) a=H' a:=λa=>da (λz=>z);have hb:aT H0 (eE _ (own σ ρ)):=λa o e=>by
     rw[da λz=>?_];exact s2.ext.hh _ _ e;obtain⟨_,_,q⟩:=s2.owned z;rw[q]at e;cases e
    have bb:aT B0 (eE _ (own σ ρ)):=λa o e=>by
     rw[da λz=>?_];exact s2.ext.bn _ _ e;obtain⟨_,_,q⟩:=s2.owned z;rw[s2.bh _ _ e]at q;cases q
    refine p v H' N' ⟨hb.trans h.hh,bb.trans h.bn,h.nh,λa o e=>?_⟩ X λz=>(Y z).back hb;rcases h.new a o e with z|z
    ·exact s2.ext.new a o (bV _ _ z)
    ·exact .inr (hb.free z)
 ·have ei:i=ds.length:=by lia
  subst ei;rw[List.drop_eq_nil_of_le (vT _)]at e;cases e
  exact .inl ⟨D (vT _),p σ H ⟨N,s⟩⟩
theorem HR (M:HQ K tg t)(q:ny K (sV f tg g) E σ H):Ln (Ul K f) t (ny K g) E σ H:=by
 obtain⟨B0,H0,ρ,r,⟨N,s⟩,e,p⟩:=q;obtain⟨ds,O,e⟩:=oX e;refine⟨eE N (own σ ρ),ly ρ,ds,bV.trans s.ext.nh,s.repH,O,λJ a N1 T U=>?_⟩;obtain⟨s1,c⟩:=s.growH T;exact xP M s1 c U e p
def QF (K:Frag)(f:FA):TI:=λσ H R=>∃(B:Hp)(ρ:Env)(ds:LD),aT B H/\eU K B σ ρ/\f ρ=some ds/\∀(J:It)(H' N:Hp),Ext B N H H'->(∀M,lL K J M ds)->R J H'
@[simp] def ot (f:FA)(tg:FG)(g:FS):FS:=λρ=>(f ρ).bind λds=>jo tg g ds ρ
theorem E3 (M:HQ K tg t)(q:ny K (ot f tg g) E σ H):Ln (QF K f) t (ny K g) E σ H:=by
 obtain⟨B0,H0,ρ,r,⟨N,s⟩,e,p⟩:=q;obtain⟨ds,O,e⟩:=oX e;refine⟨N,ρ,ds,s.ext.nh,s.rep,O,λJ a N1 T U=>?_⟩;exact xP M (s.grow T) (aT.refl _) (U _) e p
end DL
namespace DL
open PySem PySem.Spec PyProof.Rows L2
abbrev JE (X:Cx)(e:Expr)(f:FE):Prop:=PE X e (tD X.K f)
abbrev JT (X:Cx)(e:Expr)(f:FT):Prop:=PT X e (CL X.K f)
abbrev JW (X:Cx)(e:Expr)(f:FT):Prop:=PW X e (CL X.K f)
abbrev JA (X:Cx)(es:QD)(f:FA):Prop:=PA X es (Nv X.K f)
abbrev JS (X:Cx)(st:Stmt)(g:FS):Prop:=PS X st (ny X.K g)
abbrev z7 (X:Cx)(st:List Stmt)(g:FS):Prop:=sP X st (ny X.K g)
abbrev JI (X:Cx)(tg M:Expr)(f:FA):Prop:=PI X tg M (Ul X.K f)
def LG (M:Model)(A:Around)(T:QD)(U:Expr)(env:PySem.Env)(a:Value)(E:QV)(P:Shared->Prop):Shared->Prop :=
 wpAny M A (forIn T true λc r=>if r=true then do let ok <-isTrue c env (eval c env);pure (ForInStep.yield ok)else pure (ForInStep.yield r))
  (λok O=>if ok=true then wpAny M A (eval U env) (λx=>wpAny M A (call (.builtin "list.append") [a,x]) (λ_=>P) E) E O else P O) E
theorem wb {E:QV}(i:∀x s,¬E x s)(I:Nat->Shared->Prop)
  (U:∀n s,I n s->wpAny (model prog w) A (pyNext it) (λr M=>match r with
   |none=>R (.ok .next) M
   |some v=>wpAny (model prog w) A (letOwnedTupleGo AE it v) (λ_=>wpAny (model prog w) A (assign AE env v) (λ_=>LG (model prog w) A pM ng env ve E λs=>∃m,m<n/\I m s) E) E M) E s)
  (n:Nat) (h:I n s):codeAny (model prog w) A (.compLoop (.ListComp ng [⟨AE,dr,pM,0⟩] scope pos) 0 it ve env) R s:=by
 refine codeAny_loop rfl I (λn s j=>?_) n h;show wpAny _ A ((compTurn (.ListComp ng [⟨AE,dr,pM,0⟩] scope pos) 0 it ve env).onRaise (λx=>do noteFrame x env;theTreesLotGoes x)) _ _ s;refine wpAny_noted (wpAny_mono (E:=E) ?_ (λ_ _ q=>q) λ_ _ z=>(i _ _ z).elim);rw[compTurn_list];refine wX (wpAny_standAt (wX (cA (U n s j) λr M O=>?_)));cases r with
 |none=>exact wY O
 |some v=>
  refine wX (cA O λ_ M O=>wX (cA O λ_ d a=>wX (cA a λok e T=>?_)));cases ok with
  |false=>exact wY ⟨rfl,T⟩
  |true=>exact wX (wX (cA T λx f b=>wX (cA b λ_ g c=>wY (wY ⟨rfl,c⟩))))
theorem Ext.upd (x:Ext B N H H')(h:H a=none)(M:N a=none):Ext B N H (upd H' a o) :=
 ⟨λb u e=>by rw[aD (λz=>by subst z;rw[h]at e;cases e)];exact x.hh _ _ e,x.bn,λb u e=>by rw[aD (λz=>by subst z;rw[M]at e;cases e)];exact x.nh _ _ e,x.new⟩
noncomputable abbrev fH (X:Cx)(N':LS)(scope:Scope)(cl:List (Str×Addr))(C:Addr)(M:Shared)(O:Hp)(fp:List Addr):Cx :=
 { X with N:=N',s₀:=M,H₀:=O,env:=compEnvC scope cl C X.env,outer:=X.stack,stack:=X.stack,ex:=fp,fn:=λ_=>false,pn:=[],xe:=λ_ _=>False }
inductive kQ (X:Cx)(N':List Str)(scope:Scope)(cl:List (Str×Addr)):Nat->List Nat->Prop where
 |nil {j:Nat}(h:N'.length=j):kQ X N' scope cl j []
 |cons {j i:Nat}{r:List Nat}{x:Str}(h1:N'[j]? = some x) (h2:X.N[i]? = some x) (h3:X.env.kindOf x=some .cell\/X.env.kindOf x=some .free)
   (h4:(relabel scope X.env).names.lookup x=some .cell\/(relabel scope X.env).names.lookup x=some .free) (h5:cl.lookup x=X.env.cells.lookup x) (t:kQ X N' scope cl (j+1) r):kQ X N' scope cl j (i::r)
theorem kQ.len:∀ {j:Nat}{cap:LN},kQ X N' scope cl j cap->N'.length=j+cap.length
 |_,_,.nil h=>by rw[h];rfl
 |j,i::r,.cons _ _ _ _ _ t=>by rw[t.len,vE];lia
theorem kQ.get:∀ {j:Nat}{cap:LN}{k i:Nat},kQ X N' scope cl j cap->cap[k]? = some i->∃x,N'[j+k]? = some x/\X.N[i]? = some x/\(X.env.kindOf x=some .cell\/X.env.kindOf x=some .free) /\
  ((relabel scope X.env).names.lookup x=some .cell\/(relabel scope X.env).names.lookup x=some .free)/\cl.lookup x=X.env.cells.lookup x
 |_,_,_,_,.nil _,e=>by simp at e
 |j,_,0,_,.cons h1 h2 h3 h4 h5 _,e=>by simp at e;subst e;exact⟨_,h1,h2,h3,h4,h5⟩
 |j,_,k+1,i,.cons _ _ _ _ _ t,e=>by
  obtain⟨x,q,r⟩:=t.get (k:=k) (i:=i) (by simpa using e);exact⟨x,by rw[show j+(k+1)=j+1+k by lia];exact q,r⟩
structure CompSc (X:Cx)(scope:Scope)(cl:List (Str×Addr)):Prop where
 clos:closureFor scope X.env=pure cl
 nocell:∀y∈scope.names,y.2≠.cell
 kind:scope.kind=.function
 names:∀y∈scope.names,y.2=.local->scope.names.lookup y.1=some .local
 sub:∀x c,cl.lookup x=some c->X.env.cells.lookup x=some c
 has:∀x,((relabel scope X.env).names.lookup x=some .cell\/(relabel scope X.env).names.lookup x=some .free)->∃c,cl.lookup x=some c
noncomputable def dm:List (Str×NameKind)->List (Str×Addr)->List (Str×Addr)->List (Str×Addr)
 |[],_,cs=>cs
 | (n,k)::r,cells,cs=>dm r cells (if k == .free then (match cells.lookup n with|some c=>(n,c)::cs|none=>cs)else cs)
theorem tM:∀(names:List (Str×NameKind))(cs:List (Str×Addr)),(∀y∈names,y.2=.free->(env.cells.lookup y.1).isSome=true) ->
    (do let mut cs:=cs
        for (name,kind)in names do
          if kind == .free then cs:=(name,<-cellOf env name)::cs
        return cs:Sem (List (Str×Addr)))=pure (dm names env.cells cs):=by
  intro names;induction names with
  |nil=>intro cs _;rfl
  |cons y r T=>
    intro cs h;obtain⟨n,k⟩:=y;have M:=λcs=>T cs λy hy=>h y (mZ _ hy);by_cases hk:k=.free
    . subst hk;have hc:=h (n,.free) mX rfl;cases q:env.cells.lookup n with
      |none=>rw[q]at hc;cases hc
      |some c=>
        have O:dm ((n,.free)::r) env.cells cs=dm r env.cells ((n,c)::cs):=by
          rw[dm,q];rfl
        rw[O,<-M ((n,c)::cs)];have e2:cellOf env n=pure c:=by unfold cellOf;rw[q]
        simp only[List.forIn_cons,beq_self_eq_true,if_true,e2];rfl
    . have hb:(k == NameKind.free)=false:=by simpa using hk
      have O:dm ((n,k)::r) env.cells cs=dm r env.cells cs:=by rw[dm,hb];rfl
      rw[O,<-M cs];simp only[List.forIn_cons,hb,uV,if_false];rfl
theorem ms:∀(names:List (Str×NameKind))(cs:List (Str×Addr)),(∀y d,cs.lookup y=some d->cells.lookup y=some d)->(dm names cells cs).lookup x=some c->cells.lookup x=some c
 |[],cs,h,e=>h x c e
 | (n,k)::r,cs,h,e=>by
  rw[dm]at e;refine ms r _ (λy d q=>?_) e;split at q
  ·split at q
   ·rename_i O M;rw[lookup_cons]at q;split at q
    ·rename_i hy;cases q
     rw[eq_of_beq hy];exact M
    ·exact h y d q
   ·exact h y d q
  ·exact h y d q
theorem tN:∀(names:List (Str×NameKind))(cs:List (Str×Addr)),(cs.lookup x).isSome=true->((dm names cells cs).lookup x).isSome=true
 |[],cs,h=>h
 | (n,k)::r,cs,h=>by
  rw[dm];refine tN r _ ?_;split
  ·split
   ·rw[lookup_cons];split
    ·rfl
    ·exact h
   ·exact h
  ·exact h
theorem mu:∀(names:List (Str×NameKind))(cs:List (Str×Addr)),(x,NameKind.free)∈names->(cells.lookup x).isSome=true->((dm names cells cs).lookup x).isSome=true
 | (n,k)::r,cs,hm,hc=>by
  rw[dm];rcases vP hm with e|e
  ·cases e
   refine tN r _ ?_;cases q:cells.lookup x with
   |none=>rw[q]at hc;cases hc
   |some c=>simp
  ·exact mu r _ e hc
theorem ga {α:Type}{x:Str}{k:α}:∀ {l:List (Str×α)},l.lookup x=some k->(x,k)∈l
 | (n,j)::r,h=>by
  rw[lookup_cons]at h;split at h
  ·rename_i e;cases h
   rw[eq_of_beq e];exact mX
  ·exact mZ _ (ga h)
theorem LH {X:Cx}{scope:Scope}(h1:∀y∈scope.names,y.2≠.cell)(h2:scope.kind=.function)(h3:∀y∈scope.names,y.2=.local->scope.names.lookup y.1=some .local)(M:(scope.names.all λy=>!(y.2 == NameKind.free) || (X.env.cells.lookup y.1).isSome)=true):
  CompSc X scope (dm scope.names X.env.cells []):=by
 have h4:∀y∈scope.names,y.2=.free->(X.env.cells.lookup y.1).isSome=true:=λy hy e=>by
  have:=uR M y hy;rw[e]at this;simpa using this
 have frees:∀x,((relabel scope X.env).names.lookup x=some .cell\/(relabel scope X.env).names.lookup x=some .free)->(x,NameKind.free)∈scope.names:=λx h=>by
  have:∃k,(x,k)∈(relabel scope X.env).names/\(k=.cell\/k=.free):=by
   rcases h with h|h
   ·exact⟨_,ga h,.inl rfl⟩
   ·exact⟨_,ga h,.inr rfl⟩
  obtain⟨k,hm,hk⟩:=this;obtain⟨⟨n,j⟩,hj,e⟩:=vO hm;dsimp only at e;split at e
  ·rename_i hc;rw[vC,vC]at hc;cases e
   rw[<-eq_of_beq hc.1.1];exact hj
  ·cases e
   rcases hk with rfl|rfl
   ·exact absurd rfl (h1 _ hj)
   ·exact hj
 exact⟨tM scope.names [] h4,h1,h2,h3,λx c e=>ms scope.names [] (λy d q=>by cases q) e,λx h=>by
  have:=mu (x:=x) scope.names [] (frees x h) (h4 _ (frees x h) rfl);exact uU this⟩
theorem p8 {scope:Scope}{cells:List (Str×Addr)}{x:Str}(h:(x,NameKind.free)∈scope.names)(hc:(cells.lookup x).isSome=true):(dm scope.names cells []).lookup x=cells.lookup x:=by
 obtain⟨c,e⟩:=uU (mu (x:=x) scope.names [] h hc);rw[e,ms scope.names [] (λy d q=>by cases q) e]
noncomputable def sW (nT:Nat)(cap:LN)(σ:St):St:=List.replicate nT none++cap.map λi=>(σ[i]?).join
noncomputable def dn (nT:Nat)(cap:LN)(ρ:Env):Env:=List.replicate nT none++cap.map λi=>match ρ[i]? with|some (some (d,_))=>some (d,false)|_=>none
theorem wc {α:Type}{nT:Nat}{cap:LN}{f:Nat->Option α}{j:Nat}{v:α}(h:(List.replicate nT none++cap.map f)[j]? = some (some v)):∃k i,j=nT+k/\cap[k]? = some i/\f i=some v:=by
 by_cases hj:j<nT
 ·rw[getElem?_append_left (by simpa using hj),getElem?_replicate,if_pos hj]at h;cases h
 ·rw[List.getElem?_append_right (by simpa using Nat.not_lt.mp hj),length_replicate,vA]at h;obtain⟨i,h1,h2⟩:=oY h;exact⟨j - nT,i,by lia,h1,h2⟩
theorem HS {α:Type}{nT:Nat}{cap:LN}{f:Nat->Option α}{k i:Nat}{v:α}(h1:cap[k]? = some i)(h2:f i=some v):(List.replicate nT none++cap.map f)[nT+k]? = some (some v):=by
 rw[List.getElem?_append_right (by simp),length_replicate,vA,Nat.add_sub_cancel_left,h1];simp[h2]
theorem eU.caps {K:Frag}{B:Hp}{σ:St}{ρ:Env}{nT:Nat}{cap:LN}(h:eU K B σ ρ):eU K B (sW nT cap σ) (dn nT cap ρ):=⟨h.tb,λj d b q=>by
 obtain⟨k,i,rfl,h1,h2⟩:=wc q;split at h2
 ·rename_i d' b' e;cases h2
  obtain⟨v,g1,M⟩:=h.at' i _ _ e;exact⟨v,HS h1 (by rw[g1];rfl),M⟩
 ·cases h2⟩
noncomputable def fg (tg:FG)(c:FT)(fe:FE)(ρ:Env):LD->Option LD
 |[]=>some []
 |d::r=>(tg d ρ).bind λM=>(c M).bind λb=>if b=true then (fe M).bind λx=>(fg tg c fe ρ r).map (x.1 :: ·)else fg tg c fe ρ r
@[simp] theorem Nw (tg:FG)(c:FT)(fe:FE)(ρ:Env):fg tg c fe ρ []=some []:=by rw[fg]
@[simp] theorem lM (tg:FG)(c:FT)(fe:FE)(ρ:Env)(d:D)(r:LD):fg tg c fe ρ (d::r)=(tg d ρ).bind λM=>(c M).bind λb=>if b=true then (fe M).bind λx=>(fg tg c fe ρ r).map (x.1 :: ·)else fg tg c fe ρ r:=by rw[fg]
@[simp] def bN (fi:FA)(nT:Nat)(cap:LN)(tg:FG)(c:FT)(fe:FE):FE:=λρ=>(fi ρ).bind λitems=>if items.length<=sizeLine then (fg tg c fe (dn nT cap ρ) items).map λds=>(.lst ds,true)else none
def E4 (K:Frag)(n:Nat)(tg:FG)(g:TG):Prop:=∀(B H:Hp)(σ:St)(ρ O:Env)(v:V)(d:D)(Q:St->Hp->Prop),(∀i,i<n->ρ[i]? = some none)->eU K B σ ρ->aT B H->Is K B v d->tg d ρ=some O ->
 ρ.length=σ.length->(∀M,eU K B M O->(∀T,eU K T σ ρ->eU K T M ρ)->ρ.length=M.length->Q M H)->g v σ H Q
theorem mv {K:Frag}{n i:Nat}(hi:i<n):E4 K n (dj i) (gZ i):=by
 intro B H σ ρ T v d Q cl rep s h e hl k;cases e
 have O:i<σ.length:=by
  have:=(vV (cl i hi)).1;lia
 refine k _ ⟨rep.tb,λj e b q=>?_⟩ ?_ (by simpa using hl)
 ·rcases cx q with⟨rfl,p⟩|⟨ne,p⟩
  ·cases p
   exact⟨v,by simp[O],h⟩
  ·obtain⟨w,h1,h2⟩:=rep.at' j e b p;exact⟨w,by rw[vB ne];exact h1,h2⟩
 ·intro U M;refine⟨M.tb,λj e b q=>?_⟩;obtain⟨w,h1,h2⟩:=M.at' j e b q;have ne:i≠j:=λz=>by subst z;rw[cl i hi]at q;cases q
  exact⟨w,by rw[vB ne];exact h1,h2⟩
def JC (X:Cx)(M:QD)(c:FT):Prop:=∀(ae:AO)(s:Shared)(σ:St)(H:Hp)(Q:Bool->Hp->Prop),Inv X ae σ H s->CL X.K c σ H Q ->
 wq X (forIn M true λc r=>if r=true then do let ok <-isTrue c X.env (eval c X.env);pure (ForInStep.yield ok)else pure (ForInStep.yield r)) (TP X ae σ Q) X.xe s
@[simp] noncomputable def fM:FT:=λ_=>some true
theorem gJ:JC X [] fM:=by
 intro ae s σ H Q I h;obtain⟨B,ρ,c,M,rep,e,q⟩:=h;cases e
 exact wpAny_tests_nil ⟨H,I,q H (.refl H)⟩
theorem dH (h:JT X e f):JC X [e] f:=λae s σ H Q I q=>wpAny_tests_one (h ae s σ H Q I q)
inductive CI (Y:Cx)(tn:Nat->Heap->Prop)(fp:List Addr)(N1 H2:Hp)(κ:Env)(a:Addr)(l:List D->Option (List D))(items ds:List D)(s:Shared):Nat->Prop
 |mk (i:Nat) (N:Hp) (vs:List V) (es r:List D) (σ:St) (H:Hp) (I:Inv Y [] σ H s) (ti:tn i s.heap) (hn:∀b∈fp,H b=none) (hi:i<=items.length) (rp:eU Y.K N1 σ κ) (hl:κ.length=σ.length)
   (x:Ext N1 N H2 H) (n0:N a=none) (h0:H a=some (.lst vs)) (vl:vs.length<=i) (iv:IsL Y.K N vs es) (er:l (items.drop i)=some r) (ed:es++r=ds):CI Y tn fp N1 H2 κ a l items ds s (items.length - i)
theorem Ext.both (x:Ext N1 N H2 H)(y:Ext N1 N' H H'):Ext N (join N N') H H'/\aT N' (join N N'):=by
 refine⟨⟨y.hh,fy,λa o e=>?_,λa o e=>?_⟩,λa o e=>?_⟩
 ·cases z:N a with
  |some M=>rw[fy _ _ z]at e;cases e;exact y.hh _ _ (x.nh _ _ z)
  |none=>rw[eI z]at e;exact y.nh _ _ e
 ·cases z:N a with
  |some M=>rw[fy _ _ z]at e;cases e;exact .inl rfl
  |none=>
   rw[eI z]at e;exact(y.new a o e).elim (λO=>by rw[x.bn _ _ O]at z;cases z) .inr
 ·exact(y.new a o e).elim (λz=>fy _ _ (x.bn _ _ z)) λz=>by rw[eI (x.nh.free z)];exact e
theorem Ext.off (x:Ext B N H H')(h:B a=none)(h':H a=some o):N a=none:=by
 cases z:N a with
 |none=>rfl
 |some u=>
  rcases x.new _ _ z with z|z
  ·rw[h]at z;cases z
  ·rw[h']at z;cases z
theorem CO {Y:Cx}(U:Y.calm=true)(hE:∀x s,¬Y.xe x s)(hg:PG Y tg g)(MQ:E4 Y.K nT tgF g)(hc:JC Y pM fc)(he:JE Y ng fe)(T:Turn Y.prog Y.w Y.K tg J fp it tn)(P8:∀i,i<nT->κ[i]? = some none)
  (J1:lL Y.K J N1 items) (hsz:items.length<=sizeLine) (hD:H2 a=none) (X:∀H',(∀b∈fp,H' b=none)->∀b∈fp,no Y [] H' b)
  (hR:∀E O H' N vs,Inv Y [] O H' E->Ext N1 N H2 H'->N a=none->H' a=some (.lst vs)->IsL Y.K N vs ds->R (.ok .next) E) (h:CI Y tn fp N1 H2 κ a (fg tgF fc fe κ) items ds s items.length):
  codeAny (model Y.prog Y.w) Y.A (.compLoop (.ListComp ng [⟨tg,dr,pM,0⟩] scope pos) 0 (.ref it) (.ref a) Y.env) R s:=by
 refine wb hE (λn s=>CI Y tn fp N1 H2 κ a (fg tgF fc fe κ) items ds s n) (λn s' h=>?_) _ h;obtain⟨i,N,vs,es,r,O,H',I',ti,hn,hi,rp,kR,x,QY,Z,Cz,PB,er,Q⟩:=h;have sH:aT N1 H':=x.bn.trans x.nh;by_cases jZ:i<items.length
 ·obtain⟨go,yl⟩:=(J1 i H' sH).1 items[i] (by simp[jZ]);refine cA (T.item Y rfl rfl rfl U i [] s' O H' Y.xe I' (X _ hn) ti go) λq E ⟨u,eu,hq⟩=>?_;subst eu;refine cA hq λ_ s5 ⟨xv,F,I5,rx,y5,t5,S5⟩=>?_;obtain⟨j,x5,i5⟩:=yl xv F y5;obtain⟨x6,c5⟩:=x.both x5;have PD:(join N j) a=none:=x6.off QY Z;have S:aT (join N j) F:=x6.nh;rw[List.drop_eq_getElem_cons jZ]at er;unfold fg at er;obtain⟨k,e1,er⟩:=oX er;obtain⟨b,e2,er⟩:=oX er;have fin:∀(G:Shared)(f:St)(l H:Hp)(I:LV)(V W:LD),Inv Y (np fp s5.heap) f l G->eU Y.K N1 f κ->κ.length=f.length->Ext N1 H H2 l->H a=none->l a=some (.lst I) ->
    I.length<=i+1->IsL Y.K H I V->fg tgF fc fe κ (items.drop (i+1))=some W->V++W=ds->∃m,m<items.length - i/\CI Y tn fp N1 H2 κ a (fg tgF fc fe κ) items ds G m:=λG f l H I V W t Xh l9 x9 n9 h9 v9 i9 Xi Xj=>
   ⟨_,by lia,i+1,H,I,V,W,f,l,t.pins_of λp hp=>by simp at hp,T.keep _ _ _ t5 λb hb o e=>(t.pin (b,o) (mY _ (jB hb e))).1,λb hb=>by
    obtain⟨o,e,d⟩:=T.obj _ _ t5 b hb;exact(t.pin (b,o) (mY _ (jB hb e))).2.1,jZ,Xh,l9,x9,n9,h9,v9,i9,Xi,Xj⟩
  refine cA (hg (np fp s5.heap) s5 O F xv u (λM L=>L=F/\eU Y.K (join N j) M k/\eU Y.K N1 M κ/\κ.length=M.length) (I5.pinned (X _ S5) (T.obj _ _ t5)) rx
   (MQ (join N j) F O κ k xv items[i] _ P8 (rp.mono (x.bn.trans fy)) S (i5.mono c5) e1 kR λσ1 r1 r2 l1=>⟨rfl,r1,r2 N1 rp,l1⟩)) λ_ s6 ⟨M,L,I6,eH,UO,UP,l6⟩=>?_
  subst eH;have SH:L a=some (.lst vs):=x5.hh _ _ Z;refine cA (hc _ s6 M L (λc z=>c=b/\aT L z) I6 ⟨join N j,k,b,S,UO,e2,λz B=>⟨rfl,B⟩⟩) λok s7 ⟨z,I7,eb,B⟩=>?_;subst eb;have x7:Ext N1 (join N j) H2 z:=(x.trans x6).trans (.grow S B);cases ok with
  |false=>
   rw[if_neg (by decide)]at er |-;exact fin s7 M z (join N j) vs es r I7 UP l6 x7 PD (B _ _ SH) (le_succ_of_le Cz) (PB.mono fy) er Q
  |true=>
   rw[if_pos rfl]at er |-;obtain⟨y,e3,er⟩:=oX er;obtain⟨r',e4,er⟩:=oY er;subst er;refine cA (he _ s7 M z (λv P=>∃C,Ext (join N j) C z P/\Is Y.K C v y.1) I7 ⟨join N j,k,y.1,y.2,S.trans B,UO,e3,λv P C D i8 _=>⟨C,D,i8⟩⟩) λw8 s8 ⟨v8,P,I8,r8,C,D,i8⟩=>?_;refine cA (nv _ s8 M P (.ref a) [v8] (.ref a) [w8] (λ_ l=>l=upd P a (.lst (vs++[v8]))) I8 rfl (.cons r8 .nil) ⟨_,vs,v8,rfl,rfl,D.hh _ _ (B _ _ SH),by lia,rfl⟩) λ_ G ⟨_,l,t,_,e9⟩=>?_;subst e9;have UQ:=D.off PD (B _ _ SH);exact fin G M _ C (vs++[v8]) (es++[y.1]) r' t UP l6 ((x7.trans D).upd hD UQ) UQ aA (by rw[uZ,length_singleton];lia) ((PB.mono (fy.trans D.bn)).append (.cons i8 .nil)) e4 (by rw[append_assoc];exact Q)
 ·obtain rfl:i=items.length:=by lia
  rw[List.drop_eq_nil_of_le (vT _)]at er;cases er
  rw[uQ]at Q;subst Q;refine cA (T.done Y rfl rfl rfl U items.length [] s' O H' Y.xe I' (X _ hn) ti ((J1 _ H' sH).2 (vT _))) λq E ⟨hq,t⟩=>?_;subst hq;exact hR E O H' N vs t x QY Z PB
theorem jC {X:Cx}(PJ:X.calm=true){tg dr R:Expr}{V:QD}{scope:Scope}{G:Pos}{cl:List (Str×Addr)}{N':LS}{nT:Nat}{cap:LN}{tgF:FG}{g:TG}{fc:FT}{fe:FE}
  (S:CompSc X scope cl) (cp:kQ X N' scope cl nT cap)
  (hg:∀C s H fp,PG (fH X N' scope cl C s H fp) tg g) (MQ:E4 X.K nT tgF g) (hc:∀C s H fp,JC (fH X N' scope cl C s H fp) V fc) (he:∀C s H fp,JE (fH X N' scope cl C s H fp) R fe)
  {ae:AO}{σ:St}{H2:Hp}{s2:Shared}{it:Addr}{fp:List Addr}{tn:Nat->Heap->Prop}{J:It}{N1:Hp}{ρ:Env}{items ds:LD}{E:QV}
  (I2:Inv X ae σ H2 s2) (T:Turn X.prog X.w X.K tg J fp it tn) (W:tn 0 s2.heap) (f2:∀b∈fp,no X ae H2 b)
  (rep:eU X.K N1 σ ρ) (Z:aT N1 H2) (J1:lL X.K J N1 items) (hsz:items.length<=sizeLine) (ec:fg tgF fc fe (dn nT cap ρ) items=some ds) {RR:Value->Addr->Result->Shared->Prop}
  (Xk:∀(Dd C:Addr)(s':Shared)(H' N:Hp)(vs:LV)(m:SV),H2 Dd=none->Inv X ae σ H' s'->s'.heap.Ns C m->no X ae H' C->Ext N1 N H2 H'->N Dd=some (.lst vs)->IsL X.K N vs ds->RR (.ref Dd) C (.ok .next) s'):
  wq X (newList []) (λve d=>wq X (newFunctionEnv scope X.env.globals cl [] X.env.qual none .none (some X.env)) (λPK I=>
   codeAny (model X.prog X.w) X.A (.compStart (.ListComp R [⟨tg,dr,V,0⟩] scope G) 0 (.ref it) ve { PK with scope:=relabel scope X.env }) (RR ve PK.locals) I) E d) E s2:=by
 refine wpAny_newObj_type (wpAny_newFunctionEnv S.nocell (by intro y hy;simp at hy) (λt O U=>?_) S.kind);dsimp only at O U |-;have D:H2 s2.heap.objs.size=none:=I2.fresh;have f:Inv X ae σ (upd H2 s2.heap.objs.size (.lst [])) { s2 with heap:=s2.heap.push { cls:=.type "list",dict:=none,data:=.seq ([]:LU).toArray } }:=I2.lnew (t':=s2.toks) (ys:=[]) (its:=[]) .nil (uN _);generalize L:s2.heap.push { cls:=.type "list",dict:=none,data:=.seq ([]:LU).toArray }=n at O U f |-;have hC:n.objs.size=s2.heap.objs.size+1:=by rw[<-L,Heap.size_push]
 have Q:∀b o,s2.heap.get? b=some o->n.get? b=some o:=λb o e=>L ▸ vZ _ e;have M:∀b o,n.get? b=some o->t.get? b=some o:=λb o e=>U.extBut b o (vS (vX e)) (vZ _ e);have Xl:∀b o,n.get? b=some o->b≠n.objs.size:=λb o e=>vS (vX e);have UR:∀b∈fp,∃o,s2.heap.get? b=some o:=λb hb=>let ⟨o,e,_⟩:=T.obj 0 s2.heap W b hb;⟨o,e⟩;have Xm:∀b∈fp,b≠s2.heap.objs.size:=λb hb=>let ⟨o,e⟩:=UR b hb;vS (vX e);have US:∀b∈fp,b≠n.objs.size:=λb hb=>let ⟨o,e⟩:=UR b hb;Xl b o (Q b o e);have UT:∀x c,X.env.cells.lookup x=some c->c≠n.objs.size:=λx c e=>by
  obtain⟨v,z⟩:=f.cell x c e;exact vS z.lt
 have Xn:(upd H2 s2.heap.objs.size (HO.lst [])) n.objs.size=none:=f.hok.fresh (vT _);have stk:∀b∈DU X.stack,∃o,s2.heap.get? b=some o:=λb hb=>by
  obtain⟨_,o,P,_⟩:=(I2.stack).mem hb;exact⟨o,P⟩
 -- the block's context
 let Y:Cx:=fH X N' scope cl n.objs.size { s2 with heap:=n } (upd H2 s2.heap.objs.size (.lst [])) fp;have ok:Y.Ok:=by
  refine⟨I2.ok.mod,?_,I2.ok.glob,I2.ok.blt,vT _,λx y c e1 e2=>I2.ok.inj x y c (S.sub x c e1) (S.sub y c e2),λx h=>S.has x h,λx c h=>absurd h uX,I2.ok.hd,I2.ok.frames,.inl rfl,λb hb=>⟨US b hb,λx c e=>(f2 b hb).2.2.2.2.1 x c (S.sub x c e)⟩,λb o e=>?_,?_,λb o e hb=>?_,λb hb hz=>?_,f.stack,λb hb=>f.stkFree b hb⟩
  ·show(relabel scope X.env).kind=.function;exact S.kind
  ·exact f.bs b o e
  ·exact vR f.ok.bsz f.sz
  ·have h1:=(f2 b hb).2.2.2.1;rcases h1 with z|z
   ·exact I2.ok.noex b o e z
   ·exact absurd (vQ (vX e) (vR I2.ok.bsz z)) (Nat.lt_irrefl _)
  ·rcases vP (I2.stkSub b hz)with z|z
   ·exact(f2 b hb).2.1 z
   ·exact(f2 b hb).2.2.1 z
 have I4:Inv Y [] (sW nT cap σ) (upd H2 s2.heap.objs.size (.lst [])) { s2 with heap:=t,toks:=s2.toks+([]:List (Str×Value)).length }:=by
  refine⟨ok,rfl,I2.bare,Un.kept M,⟨_,O,λj x v e1 e2 e3=>?_⟩,λx c e=>?_,Xn,λx c e=>f.freeC x c (S.sub x c e),λp hp=>absurd (show p∈[]from hp) not_mem_nil,f.hok.kept M,?_⟩
  ·obtain⟨k,i,rfl,h1,h2⟩:=wc e2;obtain⟨y,g1,g2,UU,g4,g5⟩:=cp.get h1;have UV:N'[nT+k]? = some x:=e1;rw[g1]at UV;cases UV;have QW:σ[i]? = some (some v):=by
    cases q:σ[i]? with
    |none=>rw[q]at h2;cases h2
    |some z=>rw[q]at h2;have:z=some v:=h2;rw[this]
   obtain⟨m,_,hl⟩:=f.loc;obtain⟨u,r,l⟩:=hl i _ v g2 QW (UU.elim (λz=>.inr (.inl z)) λz=>.inr (.inr z));refine⟨u,r,?_⟩;rcases l with⟨l,_⟩|⟨_,c,lc,ic⟩
   ·rcases UU with z|z<;>(rw[z]at l;cases l)
   ·refine .inr ⟨g4,c,by show cl.lookup _=some c;rw[g5];exact lc,?_⟩;obtain⟨o,P,hd⟩:=ic;exact⟨o,M _ _ P,hd⟩
  ·obtain⟨v,o,P,hd⟩:=f.cell x c (S.sub x c e);exact⟨v,o,M _ _ P,hd⟩
  ·show(sW nT cap σ).length=N'.length;unfold sW;rw[cp.len];simp
 have B:∀d:Shared,d={ s2 with heap:=t,toks:=s2.toks+([]:List (Str×Value)).length }->codeAny (model Y.prog Y.w) Y.A (.compLoop (.ListComp R [⟨tg,dr,V,0⟩] scope G) 0 (.ref it) (.ref s2.heap.objs.size) Y.env) (RR (.ref s2.heap.objs.size) n.objs.size) d:=by
  rintro d rfl;refine CO (Y:=Y) PJ (λ_ _ z=>z) (hg _ _ _ _) MQ (hc _ _ _ _) (he _ _ _ _) T (λi hi=>?_) J1 hsz D (λH' hn b hb=>⟨hn b hb,US b hb,ok.exfs b hb,.inl hb,λx c e=>(f2 b hb).2.2.2.2.1 x c (S.sub x c e),λp hp=>absurd (show p∈[]from hp) not_mem_nil⟩) (λs4 σ' H' N vs F x QY P9 PB=>?_)
   ⟨0,N1,[],[],ds,sW nT cap σ,_,I4,T.keep _ _ _ W λb hb o e=>M _ _ (Q _ _ e),λb hb=>?_,uN _,rep.caps,?_,(Ext.refl Z).upd D (Z.free D),Z.free D,aA,uN _,.nil,by simpa using ec,rfl⟩
  ·unfold dn;rw[getElem?_append_left (by simpa using hi),getElem?_replicate,if_pos hi]
  ·obtain⟨m,hm,_⟩:=F.loc;have k:aT N (upd N s2.heap.objs.size (.lst vs)):=λa o e=>by rw[aD (λz=>by subst z;rw[QY]at e;cases e)];exact e
   refine Xk s2.heap.objs.size n.objs.size s4 H' (upd N s2.heap.objs.size (.lst vs)) vs m D (I2.call' (ch:=fp) F.os ((Un.laid Q (vT _) D).trans F.base) F.hok F.bare λb hb=>⟨(f2 b hb).2.2.2.1,(f2 b hb).2.1,(f2 b hb).2.2.2.2.1,(f2 b hb).2.2.2.2.2⟩) hm (I2.fpOk (by rw[hC];exact le_succ _) F.free) ⟨x.hh,x.bn.trans k,λa o e=>?_,λa o e=>?_⟩ aA (PB.mono k)
   ·by_cases z:a=s2.heap.objs.size
    ·subst z;rw[aA]at e;cases e;exact P9
    ·rw[aD z]at e;exact x.nh _ _ e
   ·by_cases z:a=s2.heap.objs.size
    ·subst z;exact .inr D
    ·rw[aD z]at e;exact x.new _ _ e
  ·rw[aD (Xm b hb)];exact(f2 b hb).1
  ·unfold dn sW;simp
 exact codeAny_compStart_list (B _ rfl) (T.self _ 0 _ _ _ (T.keep _ _ _ W λb hb o e=>M _ _ (Q _ _ e)) (B _ rfl))
theorem HU (M:X.calm=true) 
  (S:CompSc X scope cl) (i:kQ X N' scope cl nT cap) (hi:JI X tg dr fi)
  (j:∀C s H fp,PG (fH X N' scope cl C s H fp) tg g) (U:E4 X.K nT tgF g) (hc:∀C s H fp,JC (fH X N' scope cl C s H fp) pM fc) (he:∀C s H fp,JE (fH X N' scope cl C s H fp) ng fe)
  (hs:∀x,foldedSetIterable dr X.env x=pure x:=by intro _;rfl):
  JE X (.ListComp ng [⟨tg,dr,pM,0⟩] scope pos) (bN fi nT cap tgF fc fe):=by
 intro ae s σ H Q I h;obtain⟨B,ρ,d,b,k,rep,e,q⟩:=h;obtain⟨items,ei,e⟩:=oX e;have hsz:items.length<=sizeLine:=Decidable.byContradiction λz=>by rw[if_neg z]at e;cases e
 rw[if_pos hsz]at e;obtain⟨ds,l,e⟩:=oY e;cases e
 rw[eval_ListComp];refine wpAny_comprehension_free (use:=none) rfl hs S.clos S.kind S.names (cA (hi ae s σ H (λJ H2=>∃N1,Ext B N1 H H2/\lL X.K J N1 items) I ⟨B,ρ,items,k,rep,ei,λJ H2 N1 O a=>⟨N1,O,a⟩⟩) λv s1 h1=>cA h1 λF s2 h2=>?_);obtain⟨it,fp,tn,J,H2,e,I2,T,n,f2,N1,O,a⟩:=h2;subst e;refine jC M S i j U hc he I2 T n f2 (rep.mono O.bn) O.nh a hsz l (RR:=λp C=>compPost (model X.prog X.w) X.A X.xe none (EP X ae σ Q) p C) ?_;intro Dd C s' H' N vs m r t hm fC x f hl;refine⟨m,hm,λh' c=>⟨.ref Dd,H',?_,rfl,q _ H' N (O.trans x) (.lst (fx.of f) hl) λ_=>⟨Dd,vs,ds,rfl,rfl,O.hh.free r,f,hl⟩⟩⟩;obtain⟨u,c1,G,y,D,E⟩:=fC;exact t.turned (t':=s'.toks) (λb o hb e=>(c.2 b hb).trans e) u c1 y D E
theorem HV (O:X.calm=true) 
  (n:X.N.Nodup) (p:X.N[i]? = some y) (hy:X.env.kindOf y=some .local)
  (t:swapsWith (.ListComp ng [⟨tg,M,U,0⟩] scope pos) (some (.Name y py)) spos.line X.env=pure true)
  (S:CompSc X scope cl) (u:kQ X N' scope cl nT cap) (hi:JI X tg M fi)
  (D:∀C s H fp,PG (fH X N' scope cl C s H fp) tg g) (F:E4 X.K nT tgF g) (hc:∀C s H fp,JC (fH X N' scope cl C s H fp) U fc) (he:∀C s H fp,JE (fH X N' scope cl C s H fp) ng fe)
  (hs:∀x,foldedSetIterable M X.env x=pure x:=by intro _;rfl):
  JS X (.Assign [.Name y py] (.ListComp ng [⟨tg,M,U,0⟩] scope pos) spos) (aW i (bN fi nT cap tgF fc fe)):=by
 intro ae s σ H E I h;have h2:xD (tD X.K (bN fi nT cap tgF fc fe)) (gZ i) E σ H:=AR h;obtain⟨B,ρ,d,b,G,rep,e,q⟩:=h2;obtain⟨items,ei,e⟩:=oX e;have hsz:items.length<=sizeLine:=Decidable.byContradiction λz=>by rw[if_neg z]at e;cases e
 rw[if_pos hsz]at e;obtain⟨ds,L,e⟩:=oY e;cases e
 rw[exec_Assign_Name_used _ _ _ _ t];refine wX (wpAny_standAt (wX ?_));show wpAny _ _ (do let _ <-comprehension (.ListComp ng [⟨tg,M,U,0⟩] scope pos) scope X.env _ (newList []) false (eval M X.env) (some (assign (.Name y py) X.env))) _ _ s;refine wX (wpAny_mono (wpAny_comprehension_free (use:=some (assign (.Name y py) X.env)) (Q:=λ_ s'=>SP X ae E .next s') rfl hs S.clos S.kind S.names
  (cA (hi ae s σ H (λJ H2=>∃N1,Ext B N1 H H2/\lL X.K J N1 items) I ⟨B,ρ,items,G,rep,ei,λJ H2 N1 c f=>⟨N1,c,f⟩⟩) λv s1 h1=>cA h1 λQQ s2 h2=>?_)) (λ_ s' hq=>wY (wY hq)) λ_ _ e=>e)
 obtain⟨it,fp,tn,J,H2,e,I2,T,P,f2,N1,c,f⟩:=h2;subst e;refine jC O S u D F hc he I2 T P f2 (rep.mono c.bn) c.nh f hsz L (RR:=λR C=>compPost (model X.prog X.w) X.A X.xe (some (assign (.Name y py) X.env)) (λ_ s'=>SP X ae E .next s') R C) ?_;intro Dd C s' H' N vs m V W hm fC x k hl;show wpAny _ _ (assign (.Name y py) X.env (.ref Dd)) _ _ s';obtain⟨Y,c1,c2,Z,l,c5⟩:=fC;refine wpAny_assign_Name (nj W n p (.inl hy) (r:=show aZ (.ref Dd) (.ref Dd)from rfl) (λs9 I9 ⟨a,sb,ha⟩=>?_) (.inr hy));have nC:C≠a:=by
  rcases ha with z|z
  ·rw[z];exact c1
  ·exact λw=>l y a z w.symm
 refine⟨m,hm.sameBut sb nC,λh' j=>⟨_,H',?_,q _ H' N (c.trans x) (.lst (fx.of k) hl) λ_=>⟨Dd,vs,ds,rfl,rfl,c.hh.free V,k,hl⟩⟩⟩;exact I9.turned (t':=s9.toks) (λb o hb e=>(j.2 b hb).trans e) Y c1 Z l c5
section
variable {X:Cx}{a b c e:Expr}{pos:Pos}
theorem PE.to (h:PE X e t)(k:∀σ H Q,t' σ H Q->t σ H Q):PE X e t':=λae s σ H Q I q=>h ae s σ H Q I (k σ H Q q)
theorem PT.to (h:PT X e t)(k:∀σ H Q,t' σ H Q->t σ H Q):PT X e t':=λae s σ H Q I q=>h ae s σ H Q I (k σ H Q q)
theorem PW.to (h:PW X e t)(k:∀σ H Q,t' σ H Q->t σ H Q):PW X e t':=λM ae s σ H Q I q=>h M ae s σ H Q I (k σ H Q q)
theorem PA.to (h:PA X es t)(k:∀σ H Q,t' σ H Q->t σ H Q):PA X es t':=λpos ae s σ H Q I q=>h pos ae s σ H Q I (k σ H Q q)
theorem PS.to {st:Stmt}{t t':TS}(h:PS X st t)(k:∀E σ H,t' E σ H->t E σ H):PS X st t':=λae s σ H E I q=>h ae s σ H E I (k E σ H q)
theorem sP.to {st:List Stmt}{t t':TS}(h:sP X st t)(k:∀E σ H,t' E σ H->t E σ H):sP X st t':=λae s σ H E I q=>h ae s σ H E I (k E σ H q)
theorem PI.to (h:PI X tg it t)(k:∀σ H Q,t' σ H Q->t σ H Q):PI X tg it t':=λae s σ H Q I q=>h ae s σ H Q I (k σ H Q q)
theorem E5 {K:Frag}{d:D}{v:V}(i:∀B,Is K B v d){σ:St}{H:Hp}{Q:VK}(h:tD K (fC d) σ H Q):tC v σ H Q:=by
 obtain⟨B,ρ,d',b,s,r,e,q⟩:=h;cases e
 exact q.one s (i B)
theorem pv (O:X.N[i]? = some x:=by rfl)(hv:KP X.env.scope x:=by first|exact Or.inl rfl|exact Or.inr (Or.inl rfl)|exact Or.inr (Or.inr rfl))(hd:(x == ("__debug__" : Str))=false:=by decide)
  (M:(x == ("__classdict__" : Str))=false:=by decide):PE X (.Name x pos) (pP i):=cF O hv hd M
theorem ag (i:Nat)(M:PE X (.Name x pos) (pP i):=by exact pv):JE X (.Name x pos) (ai i):=PE.to M λ_ _ _ h=>LC h
theorem au:JE X (.Constant (.int i) j pos) (fC (.int i)):=PE.to KQ λ_ _ _ h=>E5 (λ_=>.int i) h
theorem gO:JE X (.Constant (.bool i) j pos) (fC (.bl i)):=PE.to NS λ_ _ _ h=>E5 (λ_=>.bl i) h
theorem eP:JE X (.Constant .none j pos) (fC .non):=PE.to KR λ_ _ _ h=>E5 (λ_=>.non) h
theorem aC:JE X (.Constant (.str x) j pos) (fC (.str x)):=PE.to KS λ_ _ _ h=>E5 (λ_=>.str x) h
theorem HX (M:Gl X x)(hm:X.mg x=some u)(r:aZ v u)(i:∀B,Is X.K B v d)(hd:(x == ("__debug__" : Str))=false:=by decide):JE X (.Name x pos) (fC d):=PE.to (AF M hm r hd) λ_ _ _ h=>E5 i h
theorem ay (M:dN X (binaryOp op) (rD X.K f))(ha:JE X a fa)(hb:JE X b O):JE X (.BinOp a op b pos) (f2 f fa O):=PE.to (Ee M ha hb) λ_ _ _ h=>HJ h
theorem AS (M:Oe X (unaryOp op) (RL X.K f))(ha:JE X a fa):JE X (.UnaryOp op a pos) (f1 f fa):=PE.to (Of M ha) λ_ _ _ h=>RM h
theorem bW (M:dN X (compareOp op) (rD X.K f))(ha:JE X a fa)(hb:JE X b O)(hm:behindInMarks op b=false:=by first|exact kg _ (by decide) (by decide)|rfl):JE X (.Compare a [op] [b] pos) (f2 f fa O):=PE.to (Ht M ha hb hm) λ_ _ _ h=>HJ h
theorem E6 {K:Frag}{f:FE}{σ:St}{H:Hp}{Q:Bool->Hp->Prop}(h:CL K (bw f) σ H Q):tD K f σ H λx H'=>∃k,x=.bl k/\Q k H':=by
 obtain⟨B,ρ,c,s,r,e,q⟩:=h;unfold bw at e;split at e
 ·rename_i O b' M;cases e
  refine⟨B,ρ,.bl c,b',s,r,M,λv H' N x i _=>?_⟩;cases i
  exact⟨c,rfl,q H' x.hh⟩
 ·cases e
theorem aM (M:dN X (compareOp op) (rD X.K f))(ha:JE X a fa)(hb:JE X b O)(hm:behindInMarks op b=false:=by first|exact kg _ (by decide) (by decide)|rfl):JT X (.Compare a [op] [b] pos) (bw (f2 f fa O)) :=
 PT.to (Hu M ha hb hm) λ_ _ _ h=>HJ (E6 h)
theorem ce (h:JE X e f)(he:∀M,isTrue e X.env M=(do let v <-M;standAt e.pos;holding [v] (truthy v)):=by intro _;rfl):JT X e (bw f):=PT.to (KZ h he) λ_ _ _ q=>E6 q
@[simp] noncomputable def nz (f g:D->D->OB)(fa M fc:FE):FE:=λρ=>(fa ρ).bind λx=>(M ρ).bind λy=>match f x.1 y.1 with
 |some (.bl true,_)=>(fc ρ).bind λz=>g y.1 z.1
 |some (.bl false,_)=>some (.bl false,false)
 |_=>none
theorem E7 {K:Frag}{f g:D->D->OB}{fa k fc:FE}{σ:St}{H:Hp}{Q:VK}(h:tD K (nz f g fa k fc) σ H Q):Ef (rD K f) (rD K g) (tD K fa) (tD K k) (tD K fc) σ H Q:=by
 obtain⟨B,ρ,d,b,s,r,e,q⟩:=h;obtain⟨x,ex,e⟩:=oX e;obtain⟨y,n,e⟩:=oX e;refine⟨B,ρ,x.1,x.2,s,r,ex,λv w N1 T l _=>⟨N1,ρ,y.1,y.2,T.nh,r.mono T.bn,n,λA H2 N2 M U _=>?_⟩⟩;split at e
 ·rename_i b' i;obtain⟨z,o,e⟩:=oX e;refine⟨N2,x.1,y.1,.bl true,b',M.nh,l.mono M.bn,U,i,λv3 p m O i3 _=>?_⟩;cases i3
  refine⟨true,rfl,?_⟩;rw[if_pos rfl];refine⟨m,ρ,z.1,z.2,O.nh,r.mono (T.bn.trans (M.bn.trans O.bn)),o,λC E t j u _=>⟨t,y.1,z.1,d,b,j.nh,U.mono (O.bn.trans j.bn),u,e,?_⟩⟩;exact q.into ((T.trans M).trans (O.trans j))
 ·rename_i b' i;cases e
  refine⟨N2,x.1,y.1,.bl false,b',M.nh,l.mono M.bn,U,i,λv3 p m O i3 _=>?_⟩;cases i3
  refine⟨false,rfl,?_⟩;rw[if_neg (by decide)];exact(q.into ((T.trans M).trans O)).one O.nh (.bl false)
 ·cases e
theorem E9 (O:dN X (compareOp op) (rD X.K f))(M:dN X (compareOp T) (rD X.K g))(ha:JE X a fa)(hb:JE X b U)(hc:JE X c fc)
  (hm:lastMarks [op,T] [b,c]=false:=by with_unfolding_all rfl):JE X (.Compare a [op,T] [b,c] pos) (nz f g fa U fc):=PE.to (Eg O M ha hb hc hm) λ_ _ _ h=>E7 h
theorem HY {K:Frag}{f g:FT}{σ:St}{H:Hp}{Q:Bool->Hp->Prop}(h:CL K (fF f g) σ H Q):NT (CL K f) (CL K g) σ H Q:=by
 obtain⟨B,ρ,c,s,r,e,q⟩:=h;unfold fF at e;cases M:f ρ with
 |none=>rw[M]at e;cases e
 |some k=>
  rw[M]at e;refine⟨B,ρ,k,s,r,M,λO h1=>?_⟩;cases k with
  |true=>rw[if_pos rfl];exact⟨B,ρ,c,s.trans h1,r,e,λH2 h2=>q H2 (h1.trans h2)⟩
  |false=>rw[if_neg (by decide)];cases e;exact q O h1
theorem LJ {K:Frag}{f g:FT}{σ:St}{H:Hp}{Q:Bool->Hp->Prop}(h:CL K (jm f g) σ H Q):Uc (CL K f) (CL K g) σ H Q:=by
 obtain⟨B,ρ,c,s,r,e,q⟩:=h;unfold jm at e;cases M:f ρ with
 |none=>rw[M]at e;cases e
 |some k=>
  rw[M]at e;refine⟨B,ρ,k,s,r,M,λO h1=>?_⟩;cases k with
  |false=>rw[if_neg (by decide)];exact⟨B,ρ,c,s.trans h1,r,e,λH2 h2=>q H2 (h1.trans h2)⟩
  |true=>rw[if_pos rfl];cases e;exact q O h1
theorem HZ {K:Frag}{f:FT}{σ:St}{H:Hp}{Q:Bool->Hp->Prop}(h:CL K (eX f) σ H Q):NU (CL K f) σ H Q:=by
 obtain⟨B,ρ,c,s,r,e,q⟩:=h;obtain⟨k,ek,e⟩:=oY e;subst e;exact⟨B,ρ,k,s,r,ek,λM h1=>q M h1⟩
variable {aH:QD}
theorem iK (ha:JT X a f):JW X (.BoolOp .And [a] pos) f:=Ho ha
theorem jD (ha:JT X a f):JW X (.BoolOp .Or [a] pos) f:=La ha
theorem kn (ha:JT X a f)(hb:JW X (.BoolOp .And (b::aH) pos) g):JW X (.BoolOp .And (a::b::aH) pos) (fF f g):=PW.to (Lb ha hb) λ_ _ _ h=>HY h
theorem ko (ha:JT X a f)(hb:JW X (.BoolOp .Or (b::aH) pos) g):JW X (.BoolOp .Or (a::b::aH) pos) (jm f g):=PW.to (NV ha hb) λ_ _ _ h=>LJ h
theorem kq (h:JW X e f):JT X e f:=h.pt
theorem fN (ha:JT X a f):JT X (.UnaryOp .Not a pos) (eX f):=PT.to (Lc ha) λ_ _ _ h=>HZ h
@[simp] noncomputable def lz (f g:FE):FE:=λρ=>match f ρ with|some (.bl true,_)=>g ρ|some (.bl false,_)=>some (.bl false,false)|_=>none
@[simp] noncomputable def LL (f g:FE):FE:=λρ=>match f ρ with|some (.bl true,_)=>some (.bl true,false)|some (.bl false,_)=>g ρ|_=>none
theorem hU (ha:JE X a f)(hb:JE X (.BoolOp .And (b::aH) pos) g):JE X (.BoolOp .And (a::b::aH) pos) (lz f g):=PE.to (Le ha hb) λσ H Q h=>by
 obtain⟨B,ρ,d,k,s,r,e,q⟩:=h;unfold lz at e;split at e
 ·rename_i b' O;refine⟨B,ρ,_,_,s,r,O,λv U N1 M T _=>?_⟩;cases T
  refine⟨true,rfl,?_⟩;rw[if_pos rfl];exact⟨N1,ρ,d,k,M.nh,r.mono M.bn,e,q.into M⟩
 ·rename_i b' O;cases e
  refine⟨B,ρ,_,_,s,r,O,λv U N1 M T _=>?_⟩;cases T
  refine⟨false,rfl,?_⟩;rw[if_neg (by decide)];exact(q.into M).one M.nh (.bl false)
 ·cases e
theorem EA (ha:JE X a f)(hb:JE X (.BoolOp .Or (b::aH) pos) g):JE X (.BoolOp .Or (a::b::aH) pos) (LL f g):=PE.to (NX ha hb) λσ H Q h=>by
 obtain⟨B,ρ,d,k,s,r,e,q⟩:=h;unfold LL at e;split at e
 ·rename_i b' O;cases e
  refine⟨B,ρ,_,_,s,r,O,λv U N1 M T _=>?_⟩;cases T
  refine⟨true,rfl,?_⟩;rw[if_pos rfl];exact(q.into M).one M.nh (.bl true)
 ·rename_i b' O;refine⟨B,ρ,_,_,s,r,O,λv U N1 M T _=>?_⟩;cases T
  refine⟨false,rfl,?_⟩;rw[if_neg (by decide)];exact⟨N1,ρ,d,k,M.nh,r.mono M.bn,e,q.into M⟩
 ·cases e
theorem gb (h:JE X a f):JE X (.BoolOp op [a] pos) f:=Ld h
variable {es:QD}
theorem am:JA X [] aj:=PA.to gI λ_ _ _ h=>HL h
theorem ah (ha:JE X e f)(hr:JA X es g)(hs:starEach (e::es) X.env=(false,eval e X.env)::starEach es X.env:=by rfl):JA X (e::es) (af f g):=PA.to (cO ha hr hs) λ_ _ _ h=>Ev h
@[simp] noncomputable def be:LD->OB:=λds=>if ds.length<=sizeLine then some (.tup ds,false)else none
@[simp] noncomputable def bI:LD->OB:=λds=>if ds.length<=sizeLine then some (.lst ds,true)else none
theorem bc {M}(h:JA X es f):JE X (.Tuple es M pos) (fA be f):=PE.to (zH h) λσ H Q q=>by
 obtain⟨B,ρ,ds,s,r,e,k⟩:=HK q;refine⟨B,ρ,ds,s,r,e,λvs T N1 M U=>?_⟩;obtain⟨g,i,d,b,s2,O,e2,k2⟩:=k vs T N1 M U;unfold be at e2;split at e2
 ·rename_i hz;cases e2
  refine⟨by rw[O.length];exact hz,λp hp=>k2 _ _ (upd g p (.tup vs)) (.laid s2 hp) (.tup (ji.of aA) (O.mono (Ext.laid s2 hp).bn)) (by simp)⟩
 ·cases e2
theorem bK (h:JA X es f):JE X (.List es pos) (fA bI f):=PE.to (Ei h) λσ H Q q=>by
 obtain⟨B,ρ,ds,s,r,e,k⟩:=HK q;refine⟨B,ρ,ds,s,r,e,λvs T N1 U g=>?_⟩;obtain⟨i,M,d,b,s2,O,e2,k2⟩:=k vs T N1 U g;unfold bI at e2;split at e2
 ·rename_i hz;cases e2
  refine⟨by rw[O.length];exact hz,λp hp=>k2 _ _ (upd i p (.lst vs)) (.laid s2 hp) (.lst (fx.of aA) (O.mono (Ext.laid s2 hp).bn)) λ_=>⟨p,vs,M,rfl,rfl,hp,aA,O.mono (Ext.laid s2 hp).bn⟩⟩
 ·cases e2
end
section
variable {X:Cx}
theorem iW (h:dN X f r)(k:∀x y H Q,T x y H Q->r x y H Q):dN X f T:=λae s σ H x y v u Q I M O q=>h ae s σ H x y v u Q I M O (k x y H Q q)
noncomputable def DW (f g:D->D->OB):D->D->OB:=λx y=>match f x y with|some r=>some r|none=>g x y
theorem nA (h:dN X s (rD X.K f))(h':dN X s (rD X.K g)):dN X s (rD X.K (DW f g)):=by
 intro ae st σ H x y v u Q I M O q;obtain⟨B,dx,T,d,b,U,a,c,e,q⟩:=q;unfold DW at e;split at e
 ·rename_i r i;cases e
  exact h ae st σ H x y v u Q I M O ⟨B,dx,T,_,_,U,a,c,i,q⟩
 ·exact h' ae st σ H x y v u Q I M O ⟨B,dx,T,_,_,U,a,c,e,q⟩
@[simp] noncomputable def z8 (C:Int->Int->Bool)(g:Int->Int->D):D->D->OB
 |.int i,.int j=>if C i j=true then some (g i j,false)else none
 |_,_=>none
theorem we (h:dN X s (rI C g))(M:∀i j,C' i j=true->C i j)(O:∀i j B,Is X.K B (g i j) (g' i j)):dN X s (rD X.K (z8 C' g')):=by
 refine iW h λx y H Q q=>?_;obtain⟨B,dx,c,d,b,T,U,a,e,q⟩:=q;cases U<;>try (cases e;done)
 cases a<;>try (cases e;done)
 rename_i i j;simp only[z8]at e;split at e
 ·rename_i hc;cases e
  exact⟨i,j,rfl,rfl,M i j hc,q.one T (O i j B)⟩
 ·cases e
theorem hV (h:dN X s (GZ g))(M:∀i j B,Is X.K B (g i j) (g' i j)):dN X s (rD X.K (z8 (λ_ _=>true) g')):=by
 refine iW h λx y H Q q=>?_;obtain⟨B,dx,a,d,b,O,T,U,e,q⟩:=q;cases T<;>try (cases e;done)
 cases U<;>try (cases e;done)
 rename_i i j;simp only[z8,if_true]at e;cases e
 exact⟨i,j,rfl,rfl,q.one O (M i j B)⟩
abbrev LM:D->D->OB:=z8 (λ_ _=>true) λi j=>.int (i+j)
abbrev zR:D->D->OB:=z8 (λ_ _=>true) λi j=>.int (i - j)
abbrev LO:D->D->OB:=z8 (λi j=>decide ((-18446744073709551616<i/\i<18446744073709551616)\/(-18446744073709551616<j/\j<18446744073709551616))) λi j=>.int (i*j)
abbrev cR:D->D->OB:=z8 (λ_ j=>decide (0<j/\j<1073741824)) λi j=>.int (i / j)
abbrev bO:D->D->OB:=z8 (λ_ j=>decide (0<j)) λi j=>.int (i % j)
abbrev O6:D->D->OB:=z8 (λ_ _=>true) λi j=>.int (Builtin.bitAnd i j)
abbrev Um:D->D->OB:=z8 (λ_ _=>true) λi j=>.bl (decide (i<j))
abbrev RN:D->D->OB:=z8 (λ_ _=>true) λi j=>.bl (decide (i<=j))
abbrev CP:D->D->OB:=z8 (λ_ _=>true) λi j=>.bl (decide (j<i))
abbrev RO:D->D->OB:=z8 (λ_ _=>true) λi j=>.bl (decide (j<=i))
theorem O7:dN X (binaryOp .Add) (rD X.K LM):=hV Lq λ_ _ _=>.int _
theorem EB:dN X (binaryOp .Sub) (rD X.K zR):=hV Lr λ_ _ _=>.int _
theorem O8:dN X (binaryOp .Mult) (rD X.K LO):=we Ls (λi j h=>by have h:=DQ h;unfold Hr;lia) λ_ _ _=>.int _
theorem bR:dN X (binaryOp .FloorDiv) (rD X.K cR):=we Hs (λi j h=>by have h:=DQ h;unfold Og;lia) λ_ _ _=>.int _
theorem bP:dN X (binaryOp .Mod) (rD X.K bO):=we Lu (λ_ _ h=>DQ h) λ_ _ _=>.int _
theorem O9:dN X (binaryOp .BitAnd) (rD X.K O6):=hV Lv λ_ _ _=>.int _
theorem RP:dN X (compareOp .Lt) (rD X.K Um):=hV Oh λ_ _ _=>.bl _
theorem RQ:dN X (compareOp .LtE) (rD X.K RN):=hV Oi λ_ _ _=>.bl _
theorem zS:dN X (compareOp .Gt) (rD X.K CP):=hV Oj λ_ _ _=>.bl _
theorem RS:dN X (compareOp .GtE) (rD X.K RO):=hV Ol λ_ _ _=>.bl _
@[simp] noncomputable def Nx (C:Str->Str->Bool)(g:Str->Str->D):D->D->OB
 |.str i,.str j=>if C i j=true then some (g i j,false)else none
 |_,_=>none
abbrev Ia:D->D->OB:=Nx (λi j=>decide (i.length+j.length<=sizeLine)) λi j=>.str (i++j)
abbrev QG:D->D->OB:=Nx (λ_ _=>true) λi j=>.bl (!decide (j.cps.toList<i.cps.toList))
theorem LP:dN X (binaryOp .Add) (rD X.K Ia):=by
 refine iW zF λx y H Q q=>?_;obtain⟨B,dx,U,d,b,M,O,T,e,q⟩:=q;cases O<;>try (cases e;done)
 cases T<;>try (cases e;done)
 rename_i i j;simp only[Ia,Nx]at e;split at e
 ·rename_i hc;cases e
  exact⟨i,j,rfl,rfl,DQ hc,q.one M (.str _)⟩
 ·cases e
theorem OA:dN X (compareOp .LtE) (rD X.K QG):=by
 intro ae s σ H x y v u Q I M O q;obtain⟨B,dx,c,d,b,T,U,a,e,q⟩:=q;cases U<;>try (cases e;done)
 cases a<;>try (cases e;done)
 rename_i i j;simp only[QG,Nx,if_true]at e;cases e
 obtain⟨t,rfl⟩:=M;obtain⟨t',rfl⟩:=O;exact PySem.P.le_str ⟨.bl _,H,I,rfl,q.one T (.bl _)⟩
end
section
variable {X:Cx}{a b c e:Expr}{pos:Pos}{st:Stmt}{aH:List Stmt}
theorem fO:z7 X [] bx:=sP.to p5 λ_ _ _ h=>Ex h
theorem ao (h1:JS X st g)(h2:z7 X aH h):z7 X (st::aH) (aF g h):=sP.to (cy h1 h2) λ_ _ _ q=>HM q
theorem bJ (h1:JS X st g):z7 X [st] g:=gR h1
theorem fU {c:Expr}{a b:List Stmt}{fc:FT}{g h:FS}(hc:JT X c fc)(ha:z7 X a g)(hb:z7 X b h):JS X (.If c a b pos) (eZ fc g h):=PS.to (xC hc ha hb) λ_ _ _ q=>LF q
theorem EC (he:JE X e f):JS X (.Return (some e) pos) (ba f):=PS.to (vh he) λ_ _ _ q=>HN q
theorem mw (i:Nat)(M:PE X (.Name x p) (pP i):=by exact pv):JS X (.Return (some (.Name x p)) pos) (jn i):=PS.to (vh M) λ_ _ _ q=>Ey q
theorem aJ (M:X.N.Nodup)(he:JE X e f)(hi:X.N[i]? = some x:=by rfl)(hx:GY X.env.scope x:=by first|exact Or.inl rfl|exact Or.inr rfl)(hs:swapsWith e (some (.Name x p)) pos.line X.env=pure false:=by rfl)
  (hf:X.fn x=true\/X.env.scope.names.lookup x=some .local:=by first|exact .inl rfl|exact .inr rfl):JS X (.Assign [.Name x p] e pos) (aW i f):=PS.to (kh M hi hx he hs hf) λ_ _ _ q=>AR q
theorem Ib (M:X.N.Nodup)(he:JE X e f)(hi:X.N[i]? = some x:=by rfl)(hx:GY X.env.scope x:=by first|exact Or.inl rfl|exact Or.inr rfl)(hs:swapsWith e (some (.Name x p)) pos.line X.env=pure false:=by rfl)
  (hf:X.fn x=true\/X.env.scope.names.lookup x=some .local:=by first|exact .inl rfl|exact .inr rfl):JS X (.Assign [.Name x p] e pos) (xO i f):=PS.to (kh M hi hx he hs hf) λ_ _ _ q=>Ez q
theorem LQ (hp:PassesOwn (model X.prog X.w) X.A X.env X.xe)(hc:X.calm=true)(hi:JI X tg U fi)(M:PG X tg t)(O:HQ X.K tgF t)(hb:z7 X T g)
  (hs:∀x,foldedSetIterable U X.env x=pure x:=by intro _;rfl):JS X (.For tg U T [] pos) (sV fi tgF g):=PS.to (pQ hp hc hi M hb hs) λ_ _ _ q=>HR O q
theorem Ic (hp:PassesOwn (model X.prog X.w) X.A X.env X.xe)(hc:X.calm=true)(hi:PI X tg U (QF X.K fi))(M:PG X tg t)(O:HQ X.K tgF t)(hb:z7 X T g)
  (hs:∀x,foldedSetIterable U X.env x=pure x:=by intro _;rfl):JS X (.For tg U T [] pos) (ot fi tgF g):=PS.to (pQ hp hc hi M hb hs) λ_ _ _ q=>E3 O q
theorem iX (he:JE X e f)(d:PE X (.Name x p) (pP i):=by exact pv)
  (M:attributeBase (.Name x p) "append" X.env (eval (.Name x p) X.env)=eval (.Name x p) X.env:=by rfl)
  (T:((backTo cL (starEach [e] X.env)).all (λx=>!x.1) && (backToKw cL (keywordEach [] X.env)).all (λx=>x.1.isSome)
   && decide ([e].length+([]:List Keyword).length+(if([]:List Keyword).isEmpty then 0 else 1)<30))=true:=by rfl)
  (O:(dI.endLine == cL.line)=true:=by rfl) (hs:starEach [e] X.env=[(false,eval e X.env)]:=by rfl) (U:swapsWith (.Call (.Attribute (.Name x p) "append" dI) [e] [] cL) none pos.line X.env=pure false:=by rfl):
  JS X (.Expr (.Call (.Attribute (.Name x p) "append" dI) [e] [] cL) pos) (km i f):=by
 refine PS.to (AG (AL PySem.F.plainAttrs_list PySem.F.slot_list_append PySem.F.type_list_append nv d (cO he gI hs) M T O hs rfl) U) λE σ H q=>?_;obtain⟨a,us,h1,h2,k⟩:=HP q;exact⟨_,h1,.inl ⟨rfl,us,fx.of h2⟩,k⟩
end
@[simp] noncomputable def aS (g:FS)(n k:Nat):LD->OB:=λds=>if ds.length=n then
 match g (ds.map (λd=>some (d,false))++List.replicate k none) with
 |some (.rt d b)=>some (d,b)
 |some (.nx _)=>some (.non,false)
 |_=>none
 else none
def Ie (K:Frag)(f:LD->OB):Sp:=λvs H Q _=>∃(B:Hp)(ds:LD)(d:D)(b:Bool),(aT B H/\Tb K B)/\IsL K B vs ds/\f ds=some (d,b)/\Fin K B H d b Q
theorem qd {K:Frag}{B H:Hp}{vs:LV}{ds:LD}{N:LS}(O:aT B H)(tb:Tb K B)(i:IsL K B vs ds):eO K B H B H (L2.iJ N vs) (ds.map (λd=>some (d,false))++List.replicate (N.length - vs.length) none):=by
 have M:∀(j:Nat)(d:D)(b:Bool),(ds.map (λd=>some (d,false))++List.replicate (N.length - vs.length) none:Env)[j]? = some (some (d,b))->b=false/\ds[j]? = some d:=λj d b e=>by
  by_cases hj:j<ds.length
  ·rw[getElem?_append_left (by simpa using hj),vA]at e;obtain⟨d',h1,h2⟩:=oY e;cases h2
   exact⟨rfl,h1⟩
  ·rw[List.getElem?_append_right (by simpa using Nat.not_lt.mp hj),getElem?_replicate]at e;split at e<;>cases e
 have T:∀a,¬own (L2.iJ N vs) (ds.map (λd=>some (d,false))++List.replicate (N.length - vs.length) none) a:=λa ⟨j,d,h,_⟩=>by
  obtain⟨z,_⟩:=M j d true h;cases z
 refine⟨O,tb,.refl O,?_,λj d e=>?_,λj d e=>?_,λj k a d e h=>?_⟩
 ·unfold L2.iJ;rw[uZ,uZ,vI,vI,length_replicate,length_replicate,i.length]
 ·obtain⟨_,U⟩:=M j d false e;obtain⟨v,h1,h2⟩:=i.get U;refine⟨v,?_,h2.mono λa o e=>by rw[da (T a)];exact e⟩;unfold L2.iJ;have hj:j<vs.length:=(vV h1).1;rw[getElem?_append_left (by simpa using hj),vA,h1]<;>rfl
 ·obtain⟨z,_⟩:=M j d true e;cases z
 ·obtain⟨z,_⟩:=M j d true h;cases z
section
variable {P:Program}{w:World}{K:Frag}{mg:SV}{base:Heap}
theorem RT {x qual:Str}{st:Stmt}{f:Addr}{fd:FuncData}{N ps:LS}{k:Nat}{g:FS}(F:MO K x qual st f fd)(S:FnScope N ps (aP st))
  (hb:∀(dG:Value)(A:Around)(outer:List PySem.Env)(s:Shared)(H:Hp)(E:XK),eQ k (A.deeper (envOfC qual (aP st) s.heap.objs.size f dG))->z7 (nu xr P w K mg base N qual (aP st) f dG A outer s H E).nox (cB st) g):
  sM P w K mg base xr (k+1) f fd ps (Ie K (aS g ps.length (N.length - ps.length))):=by
 have len:∀vs H Q E,Ie K (aS g ps.length (N.length - ps.length)) vs H Q E->vs.length=ps.length:=λvs H Q E h=>by
  obtain⟨B,ds,d,b,O,i,e,q⟩:=h;unfold aS at e;split at e
  ·rename_i hl;rw[i.length];exact hl
  ·cases e
 refine F.ok S len λdG A outer s H vs Q E hr h=>⟨_,hb dG A outer s H E hr,?_⟩;have M:=len vs H Q E h;obtain⟨B,ds,d,b,O,i,e,q⟩:=h;unfold aS at e;rw[if_pos (by rw[<-i.length];exact M)]at e;have T:=qd (N:=N) O.1 O.2 i;rw[M]at T;split at e
 ·rename_i d' b' U;cases e
  exact⟨B,H,_,_,⟨B,T⟩,U,λv H' N' a c j=>q v H' N' a c j⟩
 ·rename_i ρ' U;cases e
  exact⟨B,H,_,_,⟨B,T⟩,U,λl H' ⟨N',s'⟩=>q .non H' N' s'.ext .non (by simp)⟩
 ·cases e
structure Fn (P:Program)(w:World)(K:Frag)(mg:Str->Option Value)(base:Heap)(k:Nat)(x:Str)(f:List D->OB):Prop where
 ex:∃(ad:Addr)(fd:FuncData)(ps:List Str),sM P w K mg base xr k ad fd ps (Ie K f)/\mg x=some (.ref ad)/\PySem.W.keepIn K (.ref ad)=true/\pR K fd ps []
end
theorem AT (F:Fn X.prog X.w X.K X.mg X.base k x f)(hr:eQ k X.A)(ha:JA X (e::es) fa)(U:Gl X x:=by rfl)
  (M:(x == ("__debug__" : Str))=false:=by decide) (he:starEach (e::es) X.env=(false,eval e X.env)::starEach es X.env:=by rfl) (O:(backTo pos (starEach es X.env)).any (·.1)=false:=by rfl):
  JE X (.Call (.Name x p) (e::es) [] pos) (fA f fa):=by
 obtain⟨ad,fd,ps,a,hm,hk,hb⟩:=F.ex;refine PE.to (vj a hr U hm hk hb .nil Eo ha M he O) λσ H Q q=>?_;obtain⟨B,ρ,d,b,s,r,e,q⟩:=q;obtain⟨ds,ex,e⟩:=oX e;exact⟨B,ρ,ds,s,r,ex,λvs c N1 T g=>by
  show Ie X.K f (vs++[]) c Q _;rw[uQ];exact⟨N1,ds,d,b,⟨T.nh,r.tb.mono T.bn⟩,g,e,q.into T⟩⟩
mutual
@[simp] def cJ:D->D->Bool
 |.non,.non=>true
 |.bl a,.bl b=>a == b
 |.bl a,.int b=>decide ((if a then 1 else 0)=b)
 |.int a,.bl b=>decide (a=(if b then 1 else 0))
 |.int a,.int b=>decide (a=b)
 |.str a,.str b=>decide (a=b)
 |.tup xs,.tup ys=>fJ xs ys
 |.lst xs,.lst ys=>fJ xs ys
 |_,_=>false
@[simp] def fJ:LD->LD->Bool
 |[],[]=>true
 |x::xs,y::ys=>cJ x y && fJ xs ys
 |_,_=>false
end
@[simp] theorem xQ (a:Str)(b:Str):cJ (.str a) (.str b)=decide (a=b):=by simp only[cJ]
@[simp] noncomputable def aQ:Nat->D->Bool
 |_,.non=>true
 |_,.bl _=>true
 |_,.int _=>true
 |_,.str _=>true
 |_,.ty _=>false
 |_,.dk _ _=>false
 |_,.dt _ _=>false
 |0,.tup _=>false
 |0,.lst _=>false
 |n+1,.tup ds=>ds.all (aQ n)
 |n+1,.lst ds=>ds.all (aQ n)
theorem xR:∀ {xs ys:LD},fJ xs ys=true->xs.length=ys.length
 |[],[],_=>rfl
 |x::xs,y::ys,h=>by
  simp only[fJ,vC]at h;rw[vE,vE,xR h.2]
 |[],_::_,h=>by simp[fJ]at h
 |_::_,[],h=>by simp[fJ]at h
theorem wg (h:xs.length≠ys.length):fJ xs ys=false:=by
 cases e:fJ xs ys with
 |false=>rfl
 |true=>exact absurd (xR e) h
theorem jE (f:Nat->Bool):∀ {xs ys:LD},xs.length=ys.length->(∀(j:Nat) x y,xs[j]? = some x->ys[j]? = some y->f j=cJ x y)->(List.range xs.length).all f=fJ xs ys
 |[],[],_,_=>by simp[fJ]
 |x::xs,y::ys,hl,h=>by
  have e:=jE (λj=>f (j+1)) (xs:=xs) (ys:=ys) (by simpa using hl) λj a b h1 h2=>h (j+1) a b (by simpa using h1) (by simpa using h2);rw[vE,List.range_succ_eq_map,all_cons,all_map,fJ,<-h 0 x y rfl rfl,<-e];rfl
 |[],_::_,hl,_=>by simp at hl
 |_::_,[],hl,_=>by simp at hl
section
variable {X:Cx}{ae:AO}{σ:St}{H:Hp}{s:Shared}
theorem AU (I:Inv X ae σ H s)(h1:ji X.K H a vs)(h2:fx X.K H a U):False:=by
 obtain⟨its,_,⟨o,e,c,_⟩,_⟩:=I.tuple h1;obtain⟨its',_,⟨o',T,M,O,_⟩,_⟩:=I.list h2;rw[e]at M;cases M;rw[c]at O;injection O with z;exact absurd z (by decide)
theorem AW (I:Inv X ae σ H s)(e:s.heap.get? a=some o)(d:o.data=.seq its n):(∀aL ob,H a≠some (.dK aL ob))/\∀aL,H a≠some (.dT aL):=by
 refine⟨λaL ob h=>?_,λaL h=>?_⟩
 ·obtain⟨_,_,_,_,_,o',es,O,M,_,d',_⟩:=(show c7 X.prog X.w H s.heap a (.dK aL ob)from I.hok a _ h);rw[e]at M;cases M;rw[d]at d';cases d'
 ·obtain⟨_,_,_,_,o',es,O,M,_,d',_⟩:=(show c7 X.prog X.w H s.heap a (.dT aL)from I.hok a _ h);rw[e]at M;cases M;rw[d]at d';cases d'
theorem xS (I:Inv X ae σ H s)(h1:ji X.K H a vs):(∀aL ob,H a≠some (.dK aL ob))/\∀aL,H a≠some (.dT aL):=by
 obtain⟨its,_,⟨o,e,c,n,d⟩,_⟩:=I.tuple h1;exact AW I e d
theorem xT (I:Inv X ae σ H s)(h1:fx X.K H a vs):(∀aL ob,H a≠some (.dK aL ob))/\∀aL,H a≠some (.dT aL):=by
 obtain⟨its,_,p,_⟩:=I.list h1;obtain⟨o,e,c,n,d⟩:=p.isList;exact AW I e d
theorem wh (I:Inv X ae σ H s):∀(n:Nat){v:V}{d d':D},Is X.K H v d->Is X.K H v d'->aQ n d=true->cJ d d'=true:=by
 have M:∀ {p:D->Bool}(T:∀ {v:V}{d d':D},Is X.K H v d->Is X.K H v d'->p d=true->cJ d d'=true) {vs:LV}{ds O:LD},IsL X.K H vs ds->IsL X.K H vs O->ds.all p=true->fJ ds O=true:=by
  intro p T vs;induction vs with
  |nil=>intro ds O h h' _;cases h;cases h';simp[fJ]
  |cons v vs U=>
   intro ds O h h' hp;cases h with
   |cons h1 h2=>
    cases h' with
    |cons h3 h4=>
     rw[all_cons,vC]at hp;rw[fJ,T h1 h3 hp.1,U h2 h4 hp.2];rfl
 intro n;induction n with
 |zero=>
  intro v d d' h h' hp;cases h<;>cases h'<;>first|(simp[aQ]at hp;done)|simp[cJ]
 |succ n T=>
  intro v d d' h h' hp;cases h with
  |tup h1 h2=>
   cases h' with
   |tup h3 h4=>
    rw[I.tuple_inj h3 h1]at h4;rw[cJ];exact M T h2 h4 (by simpa [aQ]using hp)
   |lst h3 h4=>exact(AU I h1 h3).elim
   |dk h3 _ _=>exact((xS I h1).1 _ _ h3).elim
   |dt h3 _ _=>exact((xS I h1).2 _ h3).elim
  |lst h1 h2=>
   cases h' with
   |lst h3 h4=>
    rw[I.list_inj h3 h1]at h4;rw[cJ];exact M T h2 h4 (by simpa [aQ]using hp)
   |tup h3 h4=>exact(AU I h3 h1).elim
   |dk h3 _ _=>exact((xT I h1).1 _ _ h3).elim
   |dt h3 _ _=>exact((xT I h1).2 _ h3).elim
  |ty=>simp[aQ]at hp
  |dk=>simp[aQ]at hp
  |dt=>simp[aQ]at hp
  |_=>cases h'<;>simp[cJ]
theorem Kl {α:Type}{p:α->Bool}{l:List α}{j:Nat}{x:α}(h:l.all p=true)(e:l[j]? = some x):p x=true:=uR h x (vL e)
theorem xU {A:Around}{p:D->Bool}(h:∀ {T U:V}{d1 d2:D}{a b:Value},p d1=true->p d2=true->Is X.K H T d1->Is X.K H U d2->aZ T a->aZ U b->SeqAt.EqAt A s a b (cJ d1 d2))
  {vs O:LV}{ds es:LD}{its M:LU}(c:IsL X.K H vs ds) (e:IsL X.K H O es) (f:bj vs its) (g:bj O M) (k:ds.all p=true) (p2:es.all p=true):
  ∀j (h1:j<its.toArray.size) (h2:j<M.toArray.size),SeqAt.EqAt A s its.toArray[j] M.toArray[j] (cJ (ds.getD j .non) (es.getD j .non)):=by
 intro j h1 h2;rw[vH]at h1 h2;have J:=f.length;have L:=g.length;have N:=c.length;have P:=e.length;have hv:j<vs.length:=by lia
 have hw:j<O.length:=by lia
 have hd:j<ds.length:=by lia
 have he:j<es.length:=by lia
 obtain⟨u,l,m⟩:=f.get (i:=j) (x:=vs[j]) (by simp[hv]);obtain⟨n,e2,o⟩:=g.get (i:=j) (x:=O[j]) (by simp[hw]);obtain⟨v,q,r⟩:=c.get (i:=j) (d:=ds[j]) (by simp[hd]);obtain⟨w,t,y⟩:=e.get (i:=j) (d:=es[j]) (by simp[he]);have B:its.toArray[j]=u:=by have z:=(vV l).2;simpa using z
 have C:M.toArray[j]=n:=by have z:=(vV e2).2;simpa using z
 have E:vs[j]=v:=by simpa [hv]using q
 have F:O[j]=w:=by simpa [hw]using t
 have G:ds.getD j .non=ds[j]:=by simp[List.getD,hd]
 have I:es.getD j .non=es[j]:=by simp[List.getD,he]
 rw[B,C,G,I];exact h (Kl k (j:=j) (by simp[hd])) (Kl p2 (j:=j) (by simp[he])) (E ▸ r) (F ▸ y) m o
theorem wj {xs ys:LD}(j:Nat)(x y:D)(h1:xs[j]? = some x)(h2:ys[j]? = some y):cJ (xs.getD j .non) (ys.getD j .non)=cJ x y:=by
 simp[List.getD,h1,h2]
abbrev RU (A:Around)(s:Shared)(M O:Value)(b:Bool):Prop:=SeqAt.RcAt A s M O b/\SeqAt.EqAt A s M O b/\SeqAt.RcNeAt A s M O (!b)
theorem AX {M O:Addr}(rc:SeqAt.RcAt A s (.ref M) (.ref O) b)(T:SeqAt.RcNeAt A s (.ref M) (.ref O) (!b))(h:M=O->b=true):RU A s (.ref M) (.ref O) b:=by
 refine⟨rc,?_,T⟩;by_cases ha:M=O
 ·subst ha;rw[h rfl];exact SeqAt.EqAt.same _
 ·exact SeqAt.EqAt.of_refs ha rc
theorem xV (U:aQ 0 d1=true)(p2:aQ 0 d2=true)(c:Is X.K H v1 d1)(O:Is X.K H v2 d2)(T:aZ v1 u1)(M:aZ v2 u2):RU A s u1 u2 (cJ d1 d2):=by
 cases c with
 |non=>
  cases T
  cases O with
  |non=>cases M;rw[cJ];exact⟨.none_none,.same _,.none_none⟩
  |bl b=>cases M;simp only[cJ];exact⟨.none_bool _,.none_bool _,.none_bool _⟩
  |int b=>obtain⟨t',rfl⟩:=M;simp only[cJ];exact⟨.none_int _ _,.none_int _ _,.none_int _ _⟩
  |str b=>obtain⟨t',rfl⟩:=M;simp only[cJ];exact⟨.none_str _ _,.none_str _ _,.none_str _ _⟩
  |_=>simp at p2
 |bl a=>
  cases T
  cases O with
  |non=>cases M;simp only[cJ];exact⟨.bool_none _,.bool_none _,.bool_none _⟩
  |bl b=>cases M;rw[cJ];exact⟨.bool_bool _ _,.bool_bool _ _,.bool_bool _ _⟩
  |int b=>obtain⟨t',rfl⟩:=M;rw[cJ,<-beq_eq_decide_eq];exact⟨.bool_int _ _ _,.bool_int _ _ _,.bool_int _ _ _⟩
  |str b=>obtain⟨t',rfl⟩:=M;simp only[cJ];exact⟨.bool_str _ _ _,.bool_str _ _ _,.bool_str _ _ _⟩
  |_=>simp at p2
 |int a=>
  obtain⟨t,rfl⟩:=T;cases O with
  |non=>cases M;simp only[cJ];exact⟨.int_none _ _,.int_none _ _,.int_none _ _⟩
  |bl b=>cases M;rw[cJ,<-beq_eq_decide_eq];exact⟨.int_bool _ _ _,.int_bool _ _ _,.int_bool _ _ _⟩
  |int b=>obtain⟨t',rfl⟩:=M;rw[cJ,<-beq_eq_decide_eq];exact⟨.int_int _ _ _ _,.int_int _ _ _ _,.int_int _ _ _ _⟩
  |str b=>obtain⟨t',rfl⟩:=M;simp only[cJ];exact⟨.int_str _ _ _ _,.int_str _ _ _ _,.int_str _ _ _ _⟩
  |_=>simp at p2
 |str a=>
  obtain⟨t,rfl⟩:=T;cases O with
  |non=>cases M;simp only[cJ];exact⟨.str_none _ _,.str_none _ _,.str_none _ _⟩
  |bl b=>cases M;simp only[cJ];exact⟨.str_bool _ _ _,.str_bool _ _ _,.str_bool _ _ _⟩
  |int b=>obtain⟨t',rfl⟩:=M;simp only[cJ];exact⟨.str_int _ _ _ _,.str_int _ _ _ _,.str_int _ _ _ _⟩
  |str b=>obtain⟨t',rfl⟩:=M;rw[cJ,<-beq_eq_decide_eq];exact⟨.str_str _ _ _ _,.str_str _ _ _ _,.str_str _ _ _ _⟩
  |_=>simp at p2
 |_=>simp at U
theorem ED (I:Inv X ae σ H s):∀(n:Nat){A:Around}{g h:V}{d1 d2:D}{i k:Value},A.units+n<cLine->aQ n d1=true->aQ n d2=true->Is X.K H g d1->Is X.K H h d2->aZ g i->aZ h k->RU A s i k (cJ d1 d2):=by
 intro n;induction n with
 |zero=>exact λ_ b p2 d f U a=>xV b p2 d f U a
 |succ n B=>
  intro A g h d1 d2 i k hu b p2 d f U a;have M:A.units<cLine:=by lia
  have z:∀ {g h:V}{d1 d2:D}{i k:Value},aQ n d1=true->aQ n d2=true->Is X.K H g d1->Is X.K H h d2->aZ g i->aZ h k->SeqAt.EqAt A.in1 s i k (cJ d1 d2):=λb p2 d f U a=>(B (A:=A.in1) (by show A.units+1+n<cLine;lia) b p2 d f U a).2.1;by_cases f2:aQ 0 d2=true
  ·by_cases f1:aQ 0 d1=true
   ·exact xV f1 f2 d f U a
   ·cases d with
    |tup h1 k1=>
     cases U
     obtain⟨its,c,O,l⟩:=I.tuple h1;cases f with
     |non=>cases a;simp only[cJ];exact⟨.tuple_none O M,.tuple_none O M,.tuple_none O M⟩
     |bl=>cases a;simp only[cJ];exact⟨.tuple_bool _ O M,.tuple_bool _ O M,.tuple_bool _ O M⟩
     |int=>obtain⟨t,rfl⟩:=a;simp only[cJ];exact⟨.tuple_int _ _ O M,.tuple_int _ _ O M,.tuple_int _ _ O M⟩
     |str=>obtain⟨t,rfl⟩:=a;simp only[cJ];exact⟨.tuple_str _ _ O M,.tuple_str _ _ O M,.tuple_str _ _ O M⟩
     |_=>simp at f2
    |lst h1 k1=>
     cases U
     obtain⟨its,c,O,l⟩:=I.list h1;replace O:=O.isList;cases f with
     |non=>cases a;simp only[cJ];exact⟨.list_none O M,.list_none O M,.list_none O M⟩
     |bl=>cases a;simp only[cJ];exact⟨.list_bool _ O M,.list_bool _ O M,.list_bool _ O M⟩
     |int=>obtain⟨t,rfl⟩:=a;simp only[cJ];exact⟨.list_int _ _ O M,.list_int _ _ O M,.list_int _ _ O M⟩
     |str=>obtain⟨t,rfl⟩:=a;simp only[cJ];exact⟨.list_str _ _ O M,.list_str _ _ O M,.list_str _ _ O M⟩
     |_=>simp at f2
    |_=>simp at f1 b
  ·cases f with
   |tup h2 k2=>
    cases a
    obtain⟨m,o,T,C⟩:=I.tuple h2;cases d with
    |tup h1 k1=>
     cases U
     obtain⟨its,c,O,l⟩:=I.tuple h1;rename_i r E es u vs ds;have he:=xU (A:=A.in1) (p:=aQ n) z k1 k2 c o (by simpa using b) (by simpa using p2);have v:((List.range (min its.toArray.size m.toArray.size)).all (λj=>cJ (ds.getD j .non) (es.getD j .non)) && its.toArray.size == m.toArray.size)=cJ (.tup ds) (.tup es):=by
      rw[cJ,vH,vH,<-c.length,<-o.length,k1.length,k2.length];by_cases hl:ds.length=es.length
      ·rw[<-hl,Nat.min_self,beq_self_eq_true,Bool.and_true];exact jE _ hl λj x y w e2=>wj j x y w e2
      ·rw[wg hl,beq_eq_false_iff_ne.mpr hl,Bool.and_false]
     have rc:=SeqAt.RcAt.tuples O T M he;have q:=SeqAt.RcNeAt.tuples O T M he;rw[v]at rc q;exact AX rc q λe=>by subst e;exact wh I (n+1) (.tup h1 k1) (.tup h2 k2) b
    |lst h1 k1=>cases U;obtain⟨its,c,O,l⟩:=I.list h1;simp only[cJ];exact⟨.list_tuple O.isList T M,.list_tuple O.isList T M,.list_tuple O.isList T M⟩
    |non=>cases U;simp only[cJ];exact⟨.none_tuple T M,.none_tuple T M,.none_tuple T M⟩
    |bl=>cases U;simp only[cJ];exact⟨.bool_tuple _ T M,.bool_tuple _ T M,.bool_tuple _ T M⟩
    |int=>obtain⟨t,rfl⟩:=U;simp only[cJ];exact⟨.int_tuple _ _ T M,.int_tuple _ _ T M,.int_tuple _ _ T M⟩
    |str=>obtain⟨t,rfl⟩:=U;simp only[cJ];exact⟨.str_tuple _ _ T M,.str_tuple _ _ T M,.str_tuple _ _ T M⟩
    |_=>simp at b
   |lst h2 k2=>
    cases a
    obtain⟨m,o,T,C⟩:=I.list h2;replace T:=T.isList;cases d with
    |lst h1 k1=>
     cases U
     obtain⟨its,c,O,l⟩:=I.list h1;replace O:=O.isList;rename_i r E es u vs ds;have he:=xU (A:=A.in1) (p:=aQ n) z k1 k2 c o (by simpa using b) (by simpa using p2);have both:SeqAt.RcAt A s (.ref u) (.ref r) (cJ (.lst ds) (.lst es))/\SeqAt.RcNeAt A s (.ref u) (.ref r) (!cJ (.lst ds) (.lst es)):=by
      have hz:its.toArray.size=ds.length/\m.toArray.size=es.length:=by rw[vH,vH,<-c.length,<-o.length,k1.length,k2.length];exact⟨rfl,rfl⟩
      by_cases hl:ds.length=es.length
      ·have v:(List.range its.toArray.size).all (λj=>cJ (ds.getD j .non) (es.getD j .non))=cJ (.lst ds) (.lst es):=by
        rw[cJ,hz.1];exact jE _ hl λj x y w e2=>wj j x y w e2
       have hs:=(hz.1.trans hl).trans hz.2.symm;have rc:=SeqAt.RcAt.lists O T hs M he;have q:=SeqAt.RcNeAt.lists O T hs M he;rw[v]at rc q;exact⟨rc,q⟩
      ·have hs:(its.toArray.size != m.toArray.size)=true:=by rw[hz.1,hz.2];exact bne_iff_ne.mpr hl
       rw[cJ,wg hl];exact⟨.lists_lengths O T hs M,.lists_lengths O T hs M⟩
     exact AX both.1 both.2 λe=>by subst e;exact wh I (n+1) (.lst h1 k1) (.lst h2 k2) b
    |tup h1 k1=>cases U;obtain⟨its,c,O,l⟩:=I.tuple h1;simp only[cJ];exact⟨.tuple_list O T M,.tuple_list O T M,.tuple_list O T M⟩
    |non=>cases U;simp only[cJ];exact⟨.none_list T M,.none_list T M,.none_list T M⟩
    |bl=>cases U;simp only[cJ];exact⟨.bool_list _ T M,.bool_list _ T M,.bool_list _ T M⟩
    |int=>obtain⟨t,rfl⟩:=U;simp only[cJ];exact⟨.int_list _ _ T M,.int_list _ _ T M,.int_list _ _ T M⟩
    |str=>obtain⟨t,rfl⟩:=U;simp only[cJ];exact⟨.str_list _ _ T M,.str_list _ _ T M,.str_list _ _ T M⟩
    |_=>simp at b
   |_=>simp at f2 p2
@[simp] def eV:D->D->OB:=λx y=>if aQ 40 x=true/\aQ 40 y=true then some (.bl (cJ x y),false)else none
@[simp] def zT:D->D->OB:=λx y=>if aQ 40 x=true/\aQ 40 y=true then some (.bl (!cJ x y),false)else none
theorem cS (hu:X.A.units+40<cLine):dN X (compareOp .Eq) (rD X.K eV):=by
 intro ae s σ H x y v u Q I O T q;obtain⟨B,dx,c,d,b,M,U,a,e,q⟩:=q;unfold eV at e;split at e
 ·rename_i hp;cases e
  exact(ED I 40 hu hp.1 hp.2 (U.mono M) (a.mono M) O T).1 _ _ _ _ ⟨.bl _,H,I,rfl,q.one M (.bl _)⟩
 ·cases e
theorem CQ (hu:X.A.units+40<cLine):dN X (compareOp .NotEq) (rD X.K zT):=by
 intro ae s σ H x y v u Q I O T q;obtain⟨B,dx,c,d,b,M,U,a,e,q⟩:=q;unfold zT at e;split at e
 ·rename_i hp;cases e
  exact(ED I 40 hu hp.1 hp.2 (U.mono M) (a.mono M) O T).2.2 _ _ _ _ ⟨.bl _,H,I,rfl,q.one M (.bl _)⟩
 ·cases e
end
section
variable {X:Cx}{a b e:Expr}{pos:Pos}
theorem AY {K:Frag}{H:Hp}{vs:LV}{ds:LD}{i:Int}{d:D}(h:IsL K H vs ds)(e:oq ds i=some d):∃v,oq vs i=some v/\Is K H v d:=by
 unfold oq at e |-;rw[h.length];cases q:CC ds.length i with
 |none=>rw[q]at e;cases e
 |some j=>rw[q]at e;exact h.get e
@[simp] def bD:D->D->OB
 |.lst ds,.int i=>(oq ds i).map λd=>(d,false)
 |.tup ds,.int i=>(oq ds i).map λd=>(d,false)
 |.str z,.int i=>if z.length<=sizeLine then (oq z.cps.toList i).map λc=>(.str ⟨#[c]⟩,false)else none
 |_,_=>none
theorem RV:Ha X (rD X.K bD):=by
 intro M O ae s σ H x y v u Q I f g q hs;obtain⟨B,dx,l,d,b,T,j,k,e,q⟩:=q;cases j<;>try (cases e;done)
 all_goals (cases k<;>try (cases e;done))
 ·simp only[bD]at e;split at e
  ·rename_i hz;obtain⟨c,U,e2⟩:=oY e;cases e2
   exact zL M O ae s σ H _ _ v u Q I f g ⟨_,_,c,rfl,rfl,hz,U,q.one T (.str _)⟩ hs
  ·cases e
 ·rename_i h hl i;simp only[bD]at e;obtain⟨c,U,e2⟩:=oY e;cases e2
  obtain⟨w,h1,h2⟩:=AY hl U;exact vp M O ae s σ H _ _ v u Q I f g ⟨_,_,_,w,rfl,rfl,bv T h,h1,q.one T h2⟩ hs
 ·rename_i h hl i;simp only[bD]at e;obtain⟨c,U,e2⟩:=oY e;cases e2
  obtain⟨w,h1,h2⟩:=AY hl U;exact HD M O ae s σ H _ _ v u Q I f g ⟨_,_,_,w,rfl,rfl,T.seq h,h1,q.one T h2⟩ hs
theorem aR (ha:JE X a fa)(hb:JE X b M)(hs:vn b:=by intro _ _;rfl):JE X (.Subscript a b pos) (f2 bD fa M):=PE.to (Kh RV ha hb hs) λ_ _ _ h=>HJ h
abbrev FO:=Env->Option OI
def Wj (K:Frag)(f:FO):TO:=λσ H Q=>∃(B:Hp)(ρ:Env)(o:OI),aT B H/\eU K B σ ρ/\f ρ=some o/\∀H',aT H H'->Q o H'
abbrev JO (X:Cx)(e:Option Expr)(f:FO):Prop:=PO X e (Wj X.K f)
@[simp] noncomputable def jp:FO:=λ_=>some none
@[simp] noncomputable def iL (f:FE):FO:=λρ=>match f ρ with|some (.int i,_)=>some (some i)|_=>none
theorem kW:JO X none jp:=λae s σ H Q I h=>Hy ae s σ H Q I (by
 obtain⟨B,ρ,o,M,r,e,q⟩:=h;cases e
 exact q H (.refl H))
theorem kX (h:JE X e f):JO X (some e) (iL f):=λae s σ H Q I q=>Hz h ae s σ H Q I (by
 obtain⟨B,ρ,o,M,r,e,q⟩:=q;unfold iL at e;split at e
 ·rename_i i b' O;cases e
  refine⟨B,ρ,_,_,M,r,O,λv T N1 U c _=>?_⟩;cases c
  exact⟨i,rfl,q T U.hh⟩
 ·cases e)
def jF (ds:LD)(lo hi:OI):LD:=(ds.drop (HT.eG ds.length 0 lo)).take (HT.eG ds.length ds.length hi - HT.eG ds.length 0 lo)
theorem wl {K:Frag}{H:Hp}{vs:LV}{ds:LD}{lo hi:OI}(h:IsL K H vs ds):IsL K H (sQ vs lo hi) (jF ds lo hi):=by
 unfold sQ jF;rw[h.length];exact(h.drop _).take _
theorem ci.to (h:ci X f r)(k:∀xs H Q,M xs H Q->r xs H Q):ci X f M:=λae s σ H xs us Q I rs q=>h ae s σ H xs us Q I rs (k xs H Q q)
variable {es:QD}{x:Str}{p:Pos}{id T:String}
theorem bG (hc:ci X (.builtin id) (CM X.K f))(hm:X.mg x=none)(hv:bootBuiltins x=some (.builtin id))(ha:JA X (e::es) fa)(U:Gl X x:=by rfl)(hn:x ≠ "__name__":=by decide)(M:(x == ("__debug__" : Str))=false:=by decide)
  (he:starEach (e::es) X.env=(false,eval e X.env)::starEach es X.env:=by rfl) (O:(backTo pos (starEach es X.env)).any (·.1)=false:=by rfl):JE X (.Call (.Name x p) (e::es) [] pos) (fA f fa):=PE.to (xF hc U hm hv ha hn M he O) λ_ _ _ h=>HK h
theorem kY (hc:ci X (.type T) (CM X.K f))(hm:X.mg x=none)(hv:bootBuiltins x=some (.type T))(ha:JA X (e::es) fa)(U:Gl X x:=by rfl)(hn:x ≠ "__name__":=by decide)(M:(x == ("__debug__" : Str))=false:=by decide)
  (he:starEach (e::es) X.env=(false,eval e X.env)::starEach es X.env:=by rfl) (O:(backTo pos (starEach es X.env)).any (·.1)=false:=by rfl):JE X (.Call (.Name x p) (e::es) [] pos) (fA f fa):=PE.to (tG hc U hm hv ha hn M he O) λ_ _ _ h=>HK h
@[simp] noncomputable def gd:LD->OB
 |[.lst ds]=>some (.int ds.length,false)
 |[.tup ds]=>some (.int ds.length,false)
 |[.str z]=>if z.length<=sizeLine then some (.int z.length,false)else none
 |_=>none
theorem iM:ci X (.builtin "len") (CM X.K gd):=by
 refine ci.to (ci.or vv vw) λxs H Q q=>?_;obtain⟨B,ds,d,b,M,i,e,q⟩:=q;cases i with
 |nil=>simp[gd]at e
 |cons O U=>
  cases U with
  |cons _ _=>cases O<;>simp[gd]at e
  |nil=>
   cases O<;>try (simp[gd]at e;done)
   ·simp only[gd]at e;split at e
    ·rename_i hz;cases e
     exact .inr ⟨_,rfl,hz,q.one M (.int _)⟩
    ·cases e
   ·rename_i h hl;simp only[gd]at e;cases e
    refine .inl ⟨_,_,rfl,.inr (bv M h),?_⟩;rw[hl.length];exact q.one M (.int _)
   ·rename_i h hl;simp only[gd]at e;cases e
    refine .inl ⟨_,_,rfl,.inl (M.seq h),?_⟩;rw[hl.length];exact q.one M (.int _)
end
theorem zU (hr:eQ k A):A.units+40<cLine:=by have:=hr.un;lia
section
variable {X:Cx}{a b e:Expr}{pos:Pos}{x:Str}{p:Pos}
theorem xW (h:∃u v,X.mg x=some u/\aZ v u/\∀B,Is X.K B v d)(M:Gl X x:=by rfl)(hd:(x == ("__debug__" : Str))=false:=by decide):JE X (.Name x pos) (fC d):=by
 obtain⟨u,v,hm,r,i⟩:=h;exact HX M hm r i hd
@[simp] noncomputable def AZ:D->D->OB
 |.int i,.int j=>some (.int (i+j),false)
 |.str i,.str j=>if i.length+j.length<=sizeLine then some (.str (i++j),false)else none
 |_,_=>none
theorem Ig:dN X (binaryOp .Add) (rD X.K AZ):=by
 refine iW (r:=rD X.K (DW LM Ia)) (nA O7 LP) λx y H Q q=>?_;obtain⟨B,dx,M,d,b,O,T,U,e,q⟩:=q;refine⟨B,dx,M,d,b,O,T,U,?_,q⟩;cases dx<;>try (cases e;done)
 all_goals (cases M<;>try (cases e;done))
 all_goals (simp[AZ]at e;simp[DW,LM,Ia,z8,Nx,e])
@[simp] def g7:D->D->OB:=LO
theorem dc:dN X (binaryOp .Mult) (rD X.K g7):=O8
@[simp] def Km:D->D->OB:=Um
theorem Ba:dN X (compareOp .Lt) (rD X.K Km):=RP
@[simp] noncomputable def z9:D->D->OB
 |.int i,.int j=>some (.bl (decide (i<=j)),false)
 |.str i,.str j=>some (.bl (!decide (j.cps.toList<i.cps.toList)),false)
 |_,_=>none
theorem ou:dN X (compareOp .LtE) (rD X.K z9):=by
 refine iW (r:=rD X.K (DW RN QG)) (nA RQ OA) λx y H Q q=>?_;obtain⟨B,dx,M,d,b,O,T,U,e,q⟩:=q;refine⟨B,dx,M,d,b,O,T,U,?_,q⟩;cases dx<;>try (cases e;done)
 all_goals (cases M<;>try (cases e;done))
 all_goals (simp[z9]at e;simp[DW,RN,QG,z8,Nx,e])
@[simp] noncomputable def xX:D->OB
 |.int i=>some (.int (-i),false)
 |_=>none
theorem Bb:Oe X (unaryOp .USub) (RL X.K xX):=by
 intro ae s σ H x v Q I M q;obtain⟨B,dx,d,b,O,T,e,q⟩:=q;cases T<;>try (simp[xX]at e;done)
 simp only[xX]at e;cases e
 exact Lx ae s σ H _ v Q I M ⟨_,rfl,q.one O (.int _)⟩
@[simp] noncomputable def CS:D->D->Option Bool
 |.non,.non=>some true
 |_,.non=>some false
 |.bl a,.bl b=>some (a == b)
 |_,.bl _=>some false
 |_,_=>none
@[simp] def DX:D->D->OB:=λx y=>(CS x y).map λb=>(.bl b,false)
@[simp] def lN:D->D->OB:=λx y=>(CS x y).map λb=>(.bl (!b),false)
theorem Bc {K:Frag}{B:Hp}{x y:V}{v u:Value}{dx M:D}{k:Bool}(T:Is K B x dx)(U:Is K B y M)(O:aZ x v)(f:aZ y u)(e:CS dx M=some k):plainIs v u=true/\(v == u)=k:=by
 cases U<;>(first|(cases dx<;>simp[CS]at e;done)|skip)
 all_goals (cases T)
 all_goals (first|(obtain⟨t,rfl⟩:=O)|cases O)
 all_goals (cases f)
 all_goals (simp only[CS,Option.some.injEq]at e;subst e)
 all_goals (first|exact⟨rfl,rfl⟩|skip)
 all_goals (rename_i c d;cases c<;>cases d<;>exact⟨rfl,rfl⟩)
theorem EE:dN X (compareOp .Is) (rD X.K DX):=by
 intro ae s σ H x y v u Q I M O q;obtain⟨B,dx,f,d,b,T,U,c,e,q⟩:=q;obtain⟨k,ek,e⟩:=oY e;cases e
 obtain⟨h1,h2⟩:=Bc U c M O ek;refine wpAny_is_plain h1 ⟨.bl k,H,I,by rw[h2];rfl,q.one T (.bl _)⟩
theorem wm:dN X (compareOp .IsNot) (rD X.K lN):=by
 intro ae s σ H x y v u Q I M O q;obtain⟨B,dx,f,d,b,T,U,c,e,q⟩:=q;obtain⟨k,ek,e⟩:=oY e;cases e
 obtain⟨h1,h2⟩:=Bc U c M O ek;refine wpAny_isNot_plain h1 ⟨.bl (!k),H,I,by rw[h2];rfl,q.one T (.bl _)⟩
@[simp] noncomputable def fW:D->Bool
 |.non=>true|.bl _=>true|.int _=>true|.str _=>true
 |_=>false
noncomputable def DY (x:D)(ds:LD):Bool:=ds.any λy=>cJ y x
@[simp] noncomputable def jq:D->Option LD
 |.lst ds=>some ds
 |.tup ds=>some ds
 |_=>none
@[simp] def ph:D->D->OB:=λx y=>(jq y).bind λds=>if fW x=true/\ds.all fW=true then some (.bl (DY x ds),false)else none
@[simp] def hW:D->D->OB:=λx y=>(jq y).bind λds=>if fW x=true/\ds.all fW=true then some (.bl (!DY x ds),false)else none
theorem qe {K:Frag}{B:Hp}{v:V}{d:D}(i:Is K B v d)(h:fW d=true):l8 v=true:=by
 cases i<;>first|rfl|(simp[fW]at h)
theorem RW {K:Frag}{B:Hp}{v w:V}{d e:D}(i:Is K B v d)(j:Is K B w e)(h:fW d=true)(h':fW e=true):Hb v w=cJ d e:=by
 cases i<;>(first|(simp[fW]at h;done)|skip)
 all_goals (cases j<;>(first|(simp[fW]at h';done)|skip))
 all_goals (simp only[Hb,cJ,beq_eq_decide_eq])
theorem xY {K:Frag}{B:Hp}:∀ {vs:LV}{ds:LD},IsL K B vs ds->ds.all fW=true->vs.all l8=true
 |_,_,.nil,_=>rfl
 |_,_,.cons i t,h=>by
  rw[all_cons,vC]at h;rw[all_cons,qe i h.1,xY t h.2];rfl
theorem EF {K:Frag}{B:Hp}{v:V}{d:D}(j:Is K B v d)(hd:fW d=true):∀ {vs:LV}{ds:LD},IsL K B vs ds->ds.all fW=true->QE v vs=DY d ds
 |_,_,.nil,_=>rfl
 |_,_,.cons i t,h=>by
  rw[all_cons,vC]at h;have e:=EF j hd t h.2;unfold QE DY at *;rw[any_cons,any_cons,e,RW i j h.1 hd]
theorem lA:dN X (compareOp .In) (rD X.K ph):=by
 refine iW CD λx y H Q q=>?_;obtain⟨B,dx,U,d,b,M,O,T,e,q⟩:=q;obtain⟨ds,es,e⟩:=oX e;split at e
 ·rename_i hf;cases e
  cases T<;>simp only[jq]at es<;>try (cases es;done)
  ·rename_i h hl;cases es
   exact⟨_,_,rfl,.inr (bv M h),qe O hf.1,xY hl hf.2,by rw[if_neg (by decide),EF O hf.1 hl hf.2];exact q.one M (.bl _)⟩
  ·rename_i h hl;cases es
   exact⟨_,_,rfl,.inl (M.seq h),qe O hf.1,xY hl hf.2,by rw[if_neg (by decide),EF O hf.1 hl hf.2];exact q.one M (.bl _)⟩
 ·cases e
theorem qg:dN X (compareOp .NotIn) (rD X.K hW):=by
 refine iW vt λx y H Q q=>?_;obtain⟨B,dx,U,d,b,M,O,T,e,q⟩:=q;obtain⟨ds,es,e⟩:=oX e;split at e
 ·rename_i hf;cases e
  cases T<;>simp only[jq]at es<;>try (cases es;done)
  ·rename_i h hl;cases es
   exact⟨_,_,rfl,.inr (bv M h),qe O hf.1,xY hl hf.2,by rw[if_pos rfl,EF O hf.1 hl hf.2];exact q.one M (.bl _)⟩
  ·rename_i h hl;cases es
   exact⟨_,_,rfl,.inl (M.seq h),qe O hf.1,xY hl hf.2,by rw[if_pos rfl,EF O hf.1 hl hf.2];exact q.one M (.bl _)⟩
 ·cases e
theorem iN:bootBuiltins "len" = some (.builtin "len"):=PySem.boot_len
theorem OC:bootBuiltins "max" = some (.builtin "max"):=by decide +kernel
theorem OD:bootBuiltins "min" = some (.builtin "min"):=by decide +kernel
theorem Bd:bootBuiltins "all" = some (.builtin "all"):=by decide +kernel
theorem OE:bootBuiltins "int" = some (.type "int"):=by decide +kernel
theorem LR:bootBuiltins "list" = some (.type "list"):=by decide +kernel
theorem Ih:bootBuiltins "tuple" = some (.type "tuple"):=by decide +kernel
@[simp] noncomputable def Ii:LD->OB
 |[.int i,.int j]=>some (.int (if j > i then j else i),false)
 |_=>none
@[simp] noncomputable def Ij:LD->OB
 |[.int i,.int j]=>some (.int (if j<i then j else i),false)
 |_=>none
theorem xZ {K:Frag}{B:Hp}{xs:LV}{i j:Int}(h:IsL K B xs [.int i,.int j]):xs=[.int i,.int j]:=by
 cases h with
 |cons h1 h2=>cases h1;cases h2 with|cons h3 h4=>cases h3;cases h4;rfl
theorem OF (hc:X.calm=true:=by rfl):ci X (.builtin "max") (CM X.K Ii):=by
 refine ci.to (C7 hc) λxs H Q q=>?_;obtain⟨B,ds,d,b,M,i,e,q⟩:=q;match ds,e with
 |[.int O,.int T],e=>simp only[Ii]at e;cases e;exact⟨O,T,xZ i,q.one M (.int _)⟩
theorem OG (hc:X.calm=true:=by rfl):ci X (.builtin "min") (CM X.K Ij):=by
 refine ci.to (C8 hc) λxs H Q q=>?_;obtain⟨B,ds,d,b,M,i,e,q⟩:=q;match ds,e with
 |[.int O,.int T],e=>simp only[Ij]at e;cases e;exact⟨O,T,xZ i,q.one M (.int _)⟩
@[simp] def EG (f:FE):FA:=λρ=>(f ρ).bind λx=>jq x.1
theorem Be (h:JE X e f):JI X tg e (EG f):=by
 intro ae s σ H R I q;obtain⟨B,ρ,ds,j,r,k,q⟩:=q;obtain⟨x,ex,es⟩:=oX k;obtain⟨xd,m⟩:=x;cases xd<;>simp only[jq]at es<;>try (cases es;done)
 ·cases es
  refine Lm h ae s σ H R I ⟨B,ρ,_,_,j,r,ex,λv c N1 T g _=>?_⟩;cases g with
  |@tup a vs _ O hl=>
   refine⟨a,rfl,⟨vs,bv T.nh O⟩,q _ c N1 T λi H2 s2=>⟨λd ed=>?_,λM=>⟨vs,bv s2 O,by rw[hl.length];exact M⟩⟩⟩;obtain⟨v,U,iv⟩:=hl.get ed;refine⟨⟨vs,v,bv s2 O,U⟩,λy l hy=>?_⟩;obtain⟨rfl,hy⟩:=hy;have:=hy vs (bv s2 O);rw[U]at this;cases this;exact⟨N1,.refl s2,iv⟩
 ·cases es
  refine kT h ae s σ H R I ⟨B,ρ,_,_,j,r,ex,λv c N1 T g _=>?_⟩;cases g with
  |@lst a vs _ O hl=>
   refine⟨a,rfl,⟨vs,T.nh.seq O⟩,q _ c N1 T λi H2 s2=>⟨λd ed=>?_,λM=>⟨vs,s2.seq O,by rw[hl.length];exact M⟩⟩⟩;obtain⟨v,U,iv⟩:=hl.get ed;refine⟨⟨vs,v,s2.seq O,U⟩,λy l hy=>?_⟩;obtain⟨rfl,hy⟩:=hy;have:=hy vs (s2.seq O);rw[U]at this;cases this;exact⟨N1,.refl s2,iv⟩
noncomputable def hZ (lo:Int)(n:Nat):LD:=(List.range n).map λ(k:Nat)=>.int (lo+(k:Int))
theorem EH {K:Frag}{B:Hp}(lo:Int)(n:Nat):lL K (QB lo n) B (hZ lo n):=by
 intro i H s;unfold hZ;refine⟨λd ed=>?_,λhl=>by rw[vI,length_range]at hl;exact hl⟩;rw[vA]at ed;obtain⟨k,ek,ed⟩:=oY ed;have hk:=vV ek;obtain⟨M,hk⟩:=hk;rw[length_range]at M;rw[List.getElem_range]at hk;subst hk;subst ed;refine⟨M,λx H' hy=>?_⟩;obtain⟨rfl,rfl⟩:=hy;exact⟨B,.refl s,.int _⟩
@[simp] def gK (f:FE):FA:=λρ=>match f ρ with
 |some (.int j,_)=>if -1000<=j/\j<=1000 then some (hZ 0 j.toNat)else none
 |_=>none
theorem mz (hm:X.mg "range" = none)(h:JE X a f)(T:Gl X "range":=by rfl)(hs:starEach [a] X.env=[(false,eval a X.env)]:=by rfl):PI X tg (.Call (.Name "range" p) [a] [] pos) (QF X.K (gK f)):=by
 refine PI.to (C4 T hm (ah h am hs) hs) λσ H R q=>?_;obtain⟨B,ρ,ds,U,r,M,q⟩:=q;unfold gK at M;split at M
 ·rename_i j b' c;split at M
  ·rename_i hj;cases M
   refine⟨B,ρ,[.int j],U,r,by simp[af,aj,c],λvs d N1 g O=>?_⟩;cases O with
   |cons O i=>
    cases O;cases i
    exact⟨j,rfl,by lia,by lia,q _ d N1 g λ_=>EH 0 j.toNat⟩
  ·cases M
 ·cases M
theorem ya (hm:X.mg "range" = none)(h:JE X a f)(M:Gl X "range":=by rfl)(hs:starEach [a] X.env=[(false,eval a X.env)]:=by rfl):JI X tg (.Call (.Name "range" p) [a] [] pos) (gK f) :=
 PI.to (mz hm h M hs) λσ H R ⟨B,ρ,ds,O,r,T,q⟩=>⟨B,ρ,ds,O,r,T,λJ H' N x h=>q J H' N x (h _)⟩
end
def dB (K:Frag)(x:Str)(st:Stmt):Prop:=∃(f:Addr)(fd:FuncData),MO K x x st f fd/\nsIn K mainGlobals x=some (some (.ref f))
theorem def_mk {K:Frag}{x:Str}{st:Stmt}{f:Addr}{oc:Value}{od an:Option Addr}{oi:Array (Option Value)}{kV doc pm dG ct:Value}(a:nsIn K mainGlobals x=some (some (.ref f)))
  (l:K.lookup f=some ⟨oc,od,.func (fnOf x x (fK st) (cB st) (aP st) .none kV doc pm an dG ct),oi⟩) (c:PySem.W.codeIn K dG x=true) (k:PySem.W.keepIn K (.ref f)=true):dB K x st:=⟨f,_,L5 l c k,a⟩
section
variable {P:Program}{w:World}{K:Frag}{mg:SV}{base:Heap}
theorem dB.fn {x:Str}{st:Stmt}{N ps:LS}{k:Nat}{g:FS}{h:Heap}(F:dB K x st)(X:K.In h)(G:h.Ns mainGlobals mg)(S:FnScope N ps (aP st))
  (M:∀(kV doc pm:Value)(an:Option Addr)(dG ct:Value)(us:LU),us.length=ps.length->bindArgs (fnOf x x (fK st) (cB st) (aP st) .none kV doc pm an dG ct) ⟨us,[]⟩=pure (ps.zip us))
  (hb:∀(f:Addr)(dG:Value)(A:Around)(outer:List PySem.Env)(s:Shared)(H:Hp)(E:XK),eQ k (A.deeper (envOfC x (aP st) s.heap.objs.size f dG))->z7 (nu xr P w K mg base N x (aP st) f dG A outer s H E).nox (cB st) g):
  Fn P w K mg base (k+1) x (aS g ps.length (N.length - ps.length)):=by
 obtain⟨f,fd,O,a⟩:=F;exact⟨f,fd,ps,RT O S (hb f),mg_of X G a,O.kp,O.binds M⟩
end
def OH (H:Hp):Prop:=∀b,H b=none\/(∃o xs,H b=some (.frz o (.lst xs)))\/∃q,H b=some (.tbl q)
noncomputable def qh (M:List (Addr×Str))(G:Hp):Hp:=λb=>match M.lookup b with|some q=>some (.tbl q)|none=>G b
theorem g8 (e:M.lookup b=some q):qh M G b=some (.tbl q):=by unfold qh;rw[e]
theorem jr (e:M.lookup b=none):qh M G b=G b:=by unfold qh;rw[e]
theorem CT {P:Program}{w:World}{K:Frag}{mg mb:SV}{k:Nat}{fa a:Addr}{fd:FuncData}{x:Str}{sp:Sp}{M:Shared}{vs:LU}{ns:LI}(O:List (Addr×Str))
  (i:∀b q,O.lookup b=some q->M.heap.get? b=some (PySem.W.tabObj #[])/\isCodeTable M.heap b) (L:PySem.W.noTabs K=true)
  (y:K.In M.heap) (B:M.heap.Ns mainGlobals mg) (hb:M.heap.Ns builtinsNs mb) (N:∀x:Str,x ≠ "__name__"->mb x=bootBuiltins x) (Q:M.heap.NoLimit)
  (R:∃bm ob,mg "__builtins__" = some (.ref bm)/\bm≠builtinsNs/\M.heap.get? bm=some ob/\ob.cls=.type "module"/\ob.dict=some builtinsNs/\ob.data=.plain) (S:M.gens=#[])
  (ha:M.heap.get? a=some { cls:=.type "list",data:=.seq vs.toArray }) (hi:IntsAre vs ns) (hl:ns.length<=sizeLine) (hr:eQ k callerA)
  (F:∀base:Heap,K.In base->base.Ns mainGlobals mg->sM P w K mg base xr k fa fd [x] sp) (X:∀(s:Shared)(u:Value),BindsTo s fd ⟨[u],[]⟩ [(x,u)])
  (Y:∀H:Hp,(∀b q,O.lookup b=some q->H b=some (.tbl q))->fx K H a (ns.map V.int)->sp [.ref a] H (λv _=>v=.bl true) λ_ _ _=>False):
  codeAny (model P w) callerA (.call (.ref fa) ⟨[.ref a],[]⟩) (λr s'=>r=.ok (.ret (.bool true))/\OldK M.heap s'.heap/\s'.os=M.os/\AllBare s'.gens) M:=by
 have C:=L2.jk hi;have Z:=hi.length;have D:∀H:Hp,OH H->(∀b q,O.lookup b=some q->H b=some (.tbl q))->fx K H a (ns.map V.int)->lx P w H M.heap->(∀b q,H b=some (.tbl q)->M.heap.get? b=some (PySem.W.tabObj #[])/\isCodeTable M.heap b) ->
   (∀b o u,H b=some (.frz o u)->b=a)->(∀b o u,H b=some (.frz o u)->K.lookup b=none) ->
   codeAny (model P w) callerA (.call (.ref fa) ⟨[.ref a],[]⟩) (λr s'=>r=.ok (.ret (.bool true))/\OldK M.heap s'.heap/\s'.os=M.os/\AllBare s'.gens) M:=by
  intro H j hT hS hok l E hK;have Xs:∀ {b:Addr}{o:Obj},M.heap.get? b=some o->(o.cls≠.none)->(o.cls≠.type "list")->H b=none:=λ{b o} e d d'=>by
   rcases j b with q|⟨ob,xs,q⟩|⟨u,q⟩
   ·exact q
   ·have A:b=a:=E b _ _ q;subst A;rw[ha]at e;cases e;exact absurd rfl d'
   ·rw[(l b u q).1]at e;cases e;exact absurd rfl d
  have Xt:∀ {b:Addr}{o:Obj}{es:Array DictEntry}{p:Nat},M.heap.get? b=some o->o.data=.dict es p->H b=none:=λ{b o es p} e d=>by
   rcases j b with q|⟨ob,xs,q⟩|⟨u,q⟩
   ·exact q
   ·have A:b=a:=E b _ _ q;subst A;rw[ha]at e;cases e;cases d
   ·rw[(l b u q).1]at e;cases e;cases d
  have t:∀ {b:Addr}{m:SV},M.heap.Ns b m->(xy M.heap H).Ns b m:=λ{b m} ⟨o,es,p,e,d,r⟩=>⟨o,es,p,pO e (Xt e d),d,r⟩;have I:K.In (xy M.heap H):=λb o e=>pO (y b o e) (by
   rcases j b with q|⟨ob,xs,q⟩|⟨u,q⟩
   ·exact q
   ·rw[hK b _ _ q]at e;cases e
   ·have z:=(l b u q).1;rw[y b o e]at z;cases z
    have:=uR L _ (PySem.W.mem_of_lookupK e);simp at this)
  have hM:Mod K mg (xy M.heap H):=⟨I,t B,⟨mb,t hb,N⟩,let ⟨mc,h1,h2⟩:=Q;⟨mc,t h1,h2⟩,by
   obtain⟨bm,ob,b1,b2,b3,b4,b5⟩:=R;exact⟨bm,ob,b1,b2,pO b3 (Xs b3 (by rw[b4];exact λz=>nomatch z) (by rw[b4];intro z;injection z with z;exact absurd z (by decide))),b4,b5⟩⟩
  have e0:Env0 P w K mg (xy M.heap H) callerA [] M H:=⟨rfl,hM,λb o e=>Hm e,le_of_eq (C2 _ _),trivial,λb hb=>absurd (show b∈([]:List Addr)from hb) (by simp),hok,.of_eq S⟩;refine codeAny_mono ((F _ I (t B)).run callerA [] M H ⟨[.ref a],[]⟩ [.ref a] [.ref a] _ _ hr e0 (X M (.ref a)) (.cons rfl .nil) (Y H hT hS)) λr s' h=>?_;cases r with
  |error e=>exact False.elim h
  |ok fl=>
   cases fl with
   |next=>exact False.elim h
   |brk=>exact False.elim h
   |cont=>exact False.elim h
   |ret u=>
    obtain⟨v,H',os,bare,un,J,r',q⟩:=h;have f:v=.bl true:=q;subst f;obtain rfl:u=Value.bool true:=r';have kp:∀b o,H b=none->M.heap.get? b=some o->s'.heap.get? b=some o:=λb o n e=>un.keep b o e n (by intro z;exact absurd (show b∈([]:List Addr)from z) (by simp)) (by simp);refine⟨rfl,⟨λb o e=>?_,λb o e=>un.there b o e (by simp)⟩,os,bare⟩;rcases j b with z|⟨ob,xs,z⟩|⟨u,z⟩
    ·exact .inl (kp b o z e)
    ·have z2:=un.frzs b ob _ z;obtain⟨g,_⟩:=hok b _ z;obtain⟨e2,_⟩:=J b _ z2;rw[e]at g;cases g;exact .inl e2
    ·obtain⟨g,e2⟩:=l b u z;rw[e]at g;cases g;obtain⟨ps,e3,_⟩:=J b _ (un.tbls b u z);exact .inr (.inl ⟨e2,rfl,#[],ps,rfl,by simpa using e3⟩)
 have MT:∀q,O.lookup a≠some q:=λq z=>by
  have:=(i a q z).1;rw[ha]at this;cases this
 have ta:O.lookup a=none:=by
  cases z:O.lookup a with
  |none=>rfl
  |some q=>exact absurd z (MT q)
 have U:∀(G:Hp) b q,O.lookup b=some q->c7 P w (qh O G) M.heap b (.tbl q):=λG b q z=>⟨#[],(i b q z).1,trivial,λpos cv c=>by cases c⟩;cases hk:K.lookup a with
 |some o=>
  have e:=y a o hk;rw[ha]at e;cases e
  refine D (qh O λ_=>none) (λb=>?_) (λb q z=>g8 z) (.inr ⟨_,vs.toArray,_,hk,rfl,rfl,rfl,by rw[vH,Z];exact hl,by simpa using C⟩) (λb u z=>?_) (λb q z=>?_) (λb o u z=>?_) λb o u z=>?_
  all_goals cases T:O.lookup b with
   |none=>first|exact .inl (jr T)|(rw[jr T]at z;cases z)
   |some f=>first|exact .inr (.inr ⟨f,g8 T⟩)|(rw[g8 T]at z;cases z;done)|(rw[g8 T]at z;cases z;first|exact U _ b _ T|exact i b _ T)
 |none=>
  refine D (qh O λb=>if b=a then some (.frz { cls:=.type "list",data:=.seq vs.toArray } (.lst (ns.map V.int)))else none) (λb=>?_) (λb q z=>g8 z) (.inl (.inr ⟨{ cls:=.type "list",data:=.seq vs.toArray },by rw[jr ta,if_pos rfl]⟩)) (λb u z=>?_) (λb q z=>?_) (λb o u z=>?_) λb o u z=>?_
  all_goals cases T:O.lookup b with
   |some f=>first|exact .inr (.inr ⟨f,g8 T⟩)|(rw[g8 T]at z;cases z;done)|(rw[g8 T]at z;cases z;first|exact U _ b _ T|exact i b _ T)
   |none=>
    first
    |rw[jr T]at z
    |rw[jr T]
    by_cases hb:b=a
    ·first
     |rw[if_pos hb]at z
     |rw[if_pos hb]
     first
     |exact .inr (.inl ⟨_,_,rfl⟩)
     | (cases z;subst hb;exact⟨ha,by rw[vI];exact hl,vs,_,C,ha⟩)
     |exact hb
     | (rw[hb];exact hk)
     |cases z
    ·first
     | (rw[if_neg hb]at z;cases z)
     |exact .inl (if_neg hb)
noncomputable def wn (L:List (Str×Option (Addr×Addr))):List (Addr×Str):=L.filterMap λp=>p.2.map λq=>(q.2,pZ p.1)
structure pN (K:Frag)(L:List (Str×Option (Addr×Addr))):Prop where
 names:L=mr.map λx=>(x,PySem.W.tabIn K x)
 apart:((wn L).map (·.1)).Nodup
 none:PySem.W.noTabs K=true
theorem lB {α M:Type}[BEq α][LawfulBEq α]:∀ {l:List (α×M)}{a:α}{b:M},(l.map (·.1)).Nodup->(a,b)∈l->l.lookup a=some b
 | (c,d)::l,a,b,nd,h=>by
  rw[lookup_cons];rcases vP h with e|h
  ·cases e;simp
  ·have ne:a≠c:=λz=>(nodup_cons.mp nd).1 (by rw[<-z];exact uS ⟨(a,b),h,rfl⟩);rw[show(a == c)=false by simpa using ne];exact lB (nodup_cons.mp nd).2 h
theorem kx {α M:Type}[BEq α][LawfulBEq α]:∀ {l:List (α×M)}{a:α}{b:M},l.lookup a=some b->(a,b)∈l
 | (c,d)::l,a,b,h=>by
  rw[lookup_cons]at h;cases e:a == c with
  |true=>rw[e]at h;cases h;rw[eq_of_beq e];exact mX
  |false=>rw[e]at h;exact mZ _ (kx h)
theorem pN.tb {K:Frag}{L:List (Str×Option (Addr×Addr))}(F:pN K L){H:Hp}(h:∀b q,(wn L).lookup b=some q->H b=some (.tbl q)):Tb K H:=λx hx c P e=>by
 refine h P (pZ x) (lB F.apart ?_);rw[F.names];exact mem_filterMap.mpr ⟨(x,PySem.W.tabIn K x),uS ⟨x,hx,rfl⟩,by rw[e];rfl⟩
theorem tab_no {K:Frag}{x:Str}(e:nsIn K mainGlobals x=some none):PySem.W.tabIn K x=none:=by unfold PySem.W.tabIn;rw[e]
theorem tab_yes {K:Frag}{x:Str}{f c P:Addr}{oc O:Value}{od T:Option Addr}{oi M:Array (Option Value)}{fd:FuncData}{vs:AV}(U:nsIn K mainGlobals x=some (some (.ref f)))(e2:K.lookup f=some ⟨oc,od,.func fd,oi⟩)(a:fd.code=.ref c)
  (b:K.lookup c=some ⟨O,T,.fields vs,M⟩) (d:vs[11]? = some (.ref P)):PySem.W.tabIn K x=some (c,P):=by unfold PySem.W.tabIn;simp only[U,e2,a,b,d]
theorem tabs_fit {K:Frag}{M O T U a:Option (Addr×Addr)}(h0:PySem.W.tabIn K "in_order" = M)(h1:PySem.W.tabIn K "has_seal" = O)(h2:PySem.W.tabIn K "is_first_death" = T)(h3:PySem.W.tabIn K "bases_by" = U)(h4:PySem.W.tabIn K "as_heard" = a)
  (b:((wn [("in_order",M),("has_seal",O),("is_first_death",T),("bases_by",U),("as_heard",a)]).map (·.1)).Nodup) (nt:PySem.W.noTabs K=true):pN K [("in_order",M),("has_seal",O),("is_first_death",T),("bases_by",U),("as_heard",a)] :=
 ⟨by subst h0;subst h1;subst h2;subst h3;subst h4;rfl,b,nt⟩
section
variable {X:Cx}{a b e:Expr}{pos:Pos}{x:Str}{p:Pos}
@[simp] noncomputable def Ik:D->D->OB
 |.lst xs,.lst ys=>if xs.length+ys.length<=sizeLine then some (.lst (xs++ys),true)else none
 |_,_=>none
theorem LW:dN X (binaryOp .Add) (rD X.K Ik):=by
 intro ae s σ H x y v u Q I n r q;obtain⟨B,dx,E,d,bb,U,t,w,T,q⟩:=q;cases t<;>try (cases T;done)
 all_goals (cases w<;>try (cases T;done))
 rename_i l vs ds h hl z A es h' O;simp only[Ik]at T;split at T
 ·rename_i hz;cases T
  cases n
  cases r
  obtain⟨its,c,C,G⟩:=I.list (U.seq h);obtain⟨M,f,p2,J⟩:=I.list (U.seq h');obtain⟨⟨c1,d1,L,s1⟩,g,i,n1,k1⟩:=C.isList;obtain⟨⟨N,d2,P,s2⟩,j,e2,n2,k2⟩:=p2.isList;dsimp only at i k1 e2 k2;subst i;subst k1;subst e2;subst k2;have hsz:its.toArray.size+M.toArray.size<=sizeLine:=by
   rw[vH,vH,<-c.length,<-f.length,hl.length,O.length];exact hz
  have D:its.toArray++M.toArray=(its++M).toArray:=by simp
  refine concat_meets ⟨_,g,rfl⟩ ⟨_,j,rfl⟩ noFill_list_add seq_list_add slot_list_add entry_list_add (PySem.F.args_list_add_2 _ _) (list_addW l z its.toArray M.toArray n1 n2 d1 d2 s1 s2 hsz) ⟨g,j,?_⟩;rw[D];have k:=Ext.laid (o:=.lst (vs++A)) U I.fresh;have m:=(hl.append O).mono k.bn;exact⟨.ref s.heap.objs.size,_,I.lnew (t':=s.toks) (c.append f) (by rw[uZ,hl.length,O.length];exact hz),rfl,q _ _ _ k (.lst (fx.of aA) m) λ_=>⟨_,_,_,rfl,rfl,I.fresh,aA,m⟩⟩
 ·cases T
@[simp] noncomputable def sX:D->D->OB
 |.tup xs,.tup ys=>if xs.length+ys.length<=sizeLine/\xs.isEmpty=false then some (.tup (xs++ys),false)else none
 |_,_=>none
theorem EI:dN X (binaryOp .Add) (rD X.K sX):=by
 refine iW HA λx y H Q q=>?_;obtain⟨B,dx,j,d,bb,T,f,g,O,q⟩:=q;cases f<;>try (cases O;done)
 all_goals (cases g<;>try (cases O;done))
 rename_i l vs ds h hl i U es h' M;simp only[sX]at O;split at O
 ·rename_i hz;cases O
  have k:=hl.length;have m:=M.length;refine⟨l,i,vs,U,rfl,rfl,bv T h,bv T h',λz=>?_,by lia,λz=>?_,λ_ pp hp=>?_⟩
  ·subst z;cases hl
   simp at hz
  ·subst z;cases M
   rw[uQ]at q;exact q.one T (.tup h hl)
  ·have c:=Ext.laid (o:=.tup (vs++U)) T hp;exact q _ _ _ c (.tup (ji.of aA) ((hl.append M).mono c.bn)) (by simp)
 ·cases O
@[simp] noncomputable def EJ:D->D->OB
 |.bl i,.int j=>some (.int ((if i=true then 1 else 0)+j),false)
 |.int i,.bl j=>some (.int (i+b2i j),false)
 |_,_=>none
theorem LX:dN X (binaryOp .Add) (rD X.K EJ):=by
 intro ae s σ H x y v u Q I O T q;obtain⟨B,dx,g,d,bb,U,c,f,M,q⟩:=q;cases c<;>try (cases M;done)
 all_goals (cases f<;>try (cases M;done))
 ·simp only[EJ]at M;cases M
  cases O
  obtain⟨t,rfl⟩:=T;exact IntBool.add_bool_int ⟨.int _,H,I.tok _,⟨_,rfl⟩,q.one U (.int _)⟩
 ·simp only[EJ]at M;cases M
  exact C6 ae s σ H _ _ v u Q I O T ⟨_,_,rfl,rfl,q.one U (.int _)⟩
@[simp] noncomputable def ca:D->D->OB
 |.int i,.int j=>some (.int (i+j),false)
 |.str i,.str j=>if i.length+j.length<=sizeLine then some (.str (i++j),false)else none
 |.lst xs,.lst ys=>if xs.length+ys.length<=sizeLine then some (.lst (xs++ys),true)else none
 |.tup xs,.tup ys=>if xs.length+ys.length<=sizeLine/\xs.isEmpty=false then some (.tup (xs++ys),false)else none
 |.bl i,.int j=>some (.int ((if i=true then 1 else 0)+j),false)
 |.int i,.bl j=>some (.int (i+b2i j),false)
 |_,_=>none
theorem b9:dN X (binaryOp .Add) (rD X.K ca):=by
 refine iW (r:=rD X.K (DW AZ (DW Ik (DW sX EJ)))) (nA Ig (nA LW (nA EI LX))) λx y H Q q=>?_;obtain⟨B,dx,O,d,bb,T,U,c,M,q⟩:=q;refine⟨B,dx,O,d,bb,T,U,c,?_,q⟩;cases dx<;>try (cases M;done)
 all_goals (cases O<;>try (cases M;done))
 all_goals (simp[ca]at M;simp[DW,AZ,Ik,sX,EJ,M])
@[simp] noncomputable def RX:D->Option Bool
 |.bl b=>some b
 |_=>none
def qi:LD->Option (List Bool)
 |[]=>some []
 |d::ds=>(RX d).bind λb=>(qi ds).map (b :: ·)
@[simp] theorem OJ:qi []=some []:=rfl
@[simp] theorem CU (d:D)(ds:LD):qi (d::ds)=(RX d).bind λb=>(qi ds).map (b :: ·):=rfl
theorem wo {K:Frag}{B:Hp}:∀ {vs:LV}{ds:LD}{bs:List Bool}{its:LU},L2.bj vs its->IsL K B vs ds->qi ds=some bs->its=bs.map Value.bool
 |_,_,_,_,.nil,.nil,e=>by cases e;rfl
 |_,_,_,_,.cons r O,.cons i T,e=>by
  rw[CU]at e;obtain⟨b,M,e⟩:=oX e;obtain⟨bs,e2,e⟩:=oY e;subst e;cases i<;>simp only[RX]at M<;>try (cases M;done)
  cases M
  cases r
  rw[wo O T e2];rfl
@[simp] def zV:LD->OB
 |[.lst ds]=>(qi ds).map λbs=>(.bl (bs.all id),false)
 |_=>none
@[simp] def EK:LD->OB
 |[.lst ds]=>(qi ds).map λbs=>(.bl (bs.any id),false)
 |_=>none
theorem Bf (hc:X.calm=true:=by rfl):ci X (.builtin "all") (CM X.K zV):=by
 intro ae s σ H xs us Q I rs q;obtain⟨B,ds,d,bb,g,i,M,q⟩:=q;cases i with
 |nil=>cases M
 |cons k i=>
  cases i with
  |cons _ _=>cases k<;>cases M
  |nil=>
   cases k<;>try (cases M;done)
   rename_i l vs es h hl;obtain⟨bs,m,M⟩:=oY M;cases M
   obtain⟨z,rfl,n⟩:=hG rs;cases n
   obtain⟨its,r,U,C⟩:=I.list (g.seq h);have ei:=wo r hl m;have t:l<s.heap.objs.size:=by obtain⟨_,O,_⟩:=U.isList;exact vX O
   refine call_all_walk (wpAny_pyIter_list U.isList ⟨_,_,_,_,_,_,λj=>(bs[j]?).getD true,rfl,Walks.list (A:=X.A.in1) (I.ok.hd hc) s.heap.objs.size l (vS t) its.toArray,⟨⟨_,vY _ rfl,rfl,rfl⟩,U.isList.push _⟩,λj v s' D E u f=>?_,λh' tk hk=>?_⟩)
   ·have T:its[j]? = some v:=by simpa using u
    rw[ei,vA]at T;obtain⟨c,w,e2⟩:=oY T;subst e2;dsimp only at f;rw[w]at f;exact wpAny_truthy_bool f
   ·have y:((List.range its.toArray.size).all λj=>(bs[j]?).getD true)=bs.all id:=by
     rw[vH,ei,vI];exact LSm.range_all bs
    rw[y];refine⟨.bl _,H,I.kept λc o O=>?_,rfl,q.one g (.bl _)⟩;exact hk c o (λhm=>by rw[uT hm]at O;exact Nat.lt_irrefl _ (vX O)) (vZ _ O)
theorem Kn (hc:X.calm=true:=by rfl):ci X (.builtin "any") (CM X.K EK):=by
 intro ae s σ H xs us Q I rs q;obtain⟨B,ds,d,bb,g,i,M,q⟩:=q;cases i with
 |nil=>cases M
 |cons k i=>
  cases i with
  |cons _ _=>cases k<;>cases M
  |nil=>
   cases k<;>try (cases M;done)
   rename_i l vs es h hl;obtain⟨bs,m,M⟩:=oY M;cases M
   obtain⟨z,rfl,n⟩:=hG rs;cases n
   obtain⟨its,r,U,C⟩:=I.list (g.seq h);have ei:=wo r hl m;have t:l<s.heap.objs.size:=by obtain⟨_,O,_⟩:=U.isList;exact vX O
   refine call_any_walk (wpAny_pyIter_list U.isList ⟨_,_,_,_,_,_,λj=>(bs[j]?).getD false,rfl,Walks.list (A:=X.A.in1) (I.ok.hd hc) s.heap.objs.size l (vS t) its.toArray,⟨⟨_,vY _ rfl,rfl,rfl⟩,U.isList.push _⟩,λj v s' D E u f=>?_,λh' tk hk=>?_⟩)
   ·have T:its[j]? = some v:=by simpa using u
    rw[ei,vA]at T;obtain⟨c,w,e2⟩:=oY T;subst e2;dsimp only at f;rw[w]at f;exact wpAny_truthy_bool f
   ·have y:((List.range its.toArray.size).any λj=>(bs[j]?).getD false)=bs.any id:=by
     rw[vH,ei,vI];exact LSm.range_any bs
    rw[y];refine⟨.bl _,H,I.kept λc o O=>?_,rfl,q.one g (.bl _)⟩;exact hk c o (λhm=>by rw[uT hm]at O;exact Nat.lt_irrefl _ (vX O)) (vZ _ O)
theorem Ko:bootBuiltins "any" = some (.builtin "any"):=by decide +kernel
end
noncomputable def Il (z:Str):It:=⟨λi _=>i<z.cps.size,λi H v H'=>H'=H/\∃c,z.cps[i]? = some c/\v=.str ⟨#[c]⟩,λi _=>z.cps.size<=i⟩
theorem yc {P:Program}{w:World}{K:Frag}{tg:Expr}(z:Str)(t:Tok)(it:Addr):Turn P w K tg (Il z) [it] it (λi h=>h.IsStrIter it "str_ascii_iterator" z t i) where
 mem:=mem_singleton.mpr rfl
 obj:=λi h st b hb=>by
  have U:=uT hb;subst U;obtain⟨o,O,_,d1⟩:=st;exact⟨o,O,λv f=>by rw[d1]at f;cases f⟩
 keep:=λi h h' st k=>let ⟨o,O,r⟩:=st;⟨o,k it (mem_singleton.mpr rfl) o O,r⟩
 item:=by
  intro X a hw d hc i ae s σ H E I hf st e;subst a hw d;have M:i<z.cps.size:=e;obtain⟨f0,f1,f2,f3,f4,f5⟩:=hf it (mem_singleton.mpr rfl);refine wpAny_pyNext_ascii_item st (c:=z.cps[i]) (by simp[M]) λh' T g=>?_;obtain⟨o,O,c1,d1⟩:=id T;exact⟨_,rfl,t7 (s:={ s with heap:=h',toks:=s.toks+1 }) O c1 d1 (by decide) ⟨.str ⟨#[z.cps[i]]⟩,H,I.turned (λb o hb e2=>(g.2 b hb).trans e2) f0 f1 f3 f4 f5,⟨_,rfl⟩,⟨rfl,_,by simp[M],rfl⟩,T,λb hb=>(hf b hb).1⟩⟩
 done:=by
  intro X a hw d hc i ae s σ H E I hf st e;subst a hw d;have M:z.cps.size<=i:=e;obtain⟨f0,f1,f2,f3,f4,f5⟩:=hf it (mem_singleton.mpr rfl);exact wpAny_pyNext_ascii_end (I.ok.hd hc) st (by simp;lia) λh' U=>⟨rfl,I.turned (t':=s.toks) (λb o hb e2=>U b o hb e2) f0 f1 f3 f4 f5⟩
 self:=λ_ _ _ _ _ st h=>wpAny_pyIter_striter_ascii st h
theorem ye {P:Program}{w:World}{K:Frag}{tg:Expr}(z:Str)(t:Tok)(it:Addr):Turn P w K tg (Il z) [it] it (λi h=>h.IsStrIter it "str_iterator" z t i) where
 mem:=mem_singleton.mpr rfl
 obj:=λi h st b hb=>by
  have U:=uT hb;subst U;obtain⟨o,O,_,d1⟩:=st;exact⟨o,O,λv f=>by rw[d1]at f;cases f⟩
 keep:=λi h h' st k=>let ⟨o,O,r⟩:=st;⟨o,k it (mem_singleton.mpr rfl) o O,r⟩
 item:=by
  intro X a hw d hc i ae s σ H E I hf st e;subst a hw d;have M:i<z.cps.size:=e;obtain⟨f0,f1,f2,f3,f4,f5⟩:=hf it (mem_singleton.mpr rfl);refine wpAny_pyNext_wide_item st (c:=z.cps[i]) (by simp[M]) λh' T g=>?_;obtain⟨o,O,c1,d1⟩:=id T;exact⟨_,rfl,t7 (s:={ s with heap:=h',toks:=s.toks+1 }) O c1 d1 (by decide) ⟨.str ⟨#[z.cps[i]]⟩,H,I.turned (λb o hb e2=>(g.2 b hb).trans e2) f0 f1 f3 f4 f5,⟨_,rfl⟩,⟨rfl,_,by simp[M],rfl⟩,T,λb hb=>(hf b hb).1⟩⟩
 done:=by
  intro X a hw d hc i ae s σ H E I hf st e;subst a hw d;have M:z.cps.size<=i:=e;obtain⟨f0,f1,f2,f3,f4,f5⟩:=hf it (mem_singleton.mpr rfl);exact wpAny_pyNext_wide_end (I.ok.hd hc) st (by simp;lia) λh' U=>⟨rfl,I.turned (t':=s.toks) (λb o hb e2=>U b o hb e2) f0 f1 f3 f4 f5⟩
 self:=λ_ _ _ _ _ st h=>wpAny_pyIter_striter_wide st h
section
variable {X:Cx}{a b e:Expr}{pos:Pos}{x:Str}{p:Pos}{tg:Expr}
theorem EL {l:Expr}{tl:TE}(hl:PE X l tl):PI X tg l (λσ H R=>tl σ H λx M=>∃z,x=.str z/\R (Il z) M):=by
 intro ae s σ H R I h;refine cA (hl ae s σ H _ I h) λv s1 ⟨x,M,I1,O,T⟩=>?_;obtain⟨z,rfl,q⟩:=T;obtain⟨t,rfl⟩:=O;have fp:∀b∈[s1.heap.objs.size],no X ae M b:=λb hb=>by
  rw[uT hb];exact I1.fpOk (vT _) (I1.hok.fresh (vT _))
 cases ha:z.cps.all (· < 128) with
 |true=>exact wpAny_pyIter_ascii ha ⟨_,[s1.heap.objs.size],_,_,M,rfl,I1.kept (t':=s1.toks) λb o e=>vZ _ e,yc z t _,⟨_,vY _ rfl,rfl,rfl⟩,fp,q⟩
 |false=>exact wpAny_pyIter_wide ha ⟨_,[s1.heap.objs.size],_,_,M,rfl,I1.kept (t':=s1.toks) λb o e=>vZ _ e,ye z t _,⟨_,vY _ rfl,rfl,rfl⟩,fp,q⟩
noncomputable def Bg (z:Str):LD:=z.cps.toList.map λc=>.str ⟨#[c]⟩
theorem EM {K:Frag}{B:Hp}(z:Str):lL K (Il z) B (Bg z):=by
 intro i H s;refine⟨λd ed=>?_,λhl=>by unfold Bg at hl;show z.cps.size<=i;simpa using hl⟩;unfold Bg at ed;rw[vA]at ed;obtain⟨c,T,rfl⟩:=oY ed;have M:z.cps[i]? = some c:=by simpa using T
 refine⟨(Array.getElem?_eq_some_iff.mp M).1,λv H' hy=>?_⟩;obtain⟨rfl,U,O,rfl⟩:=hy;rw[M]at O;cases O;exact⟨B,.refl s,.str _⟩
@[simp] def LY:D->Option LD
 |.lst ds=>some ds
 |.tup ds=>some ds
 |.str z=>some (Bg z)
 |_=>none
@[simp] def cn (f:FE):FA:=λρ=>(f ρ).bind λx=>LY x.1
theorem cz (h:JE X e f):JI X tg e (cn f):=by
 intro ae s σ H R I q;obtain⟨B,ρ,ds,M,r,O,q⟩:=q;obtain⟨T,ex,es⟩:=oX O;obtain⟨xd,g⟩:=T;cases xd with
 |lst l=>exact Be h ae s σ H R I ⟨B,ρ,ds,M,r,by unfold EG;rw[ex];exact es,q⟩
 |tup l=>exact Be h ae s σ H R I ⟨B,ρ,ds,M,r,by unfold EG;rw[ex];exact es,q⟩
 |str z=>
  cases es
  refine EL h ae s σ H R I ⟨B,ρ,_,_,M,r,ex,λv U N1 c d _=>?_⟩;cases d
  exact⟨z,rfl,q _ U N1 c (EM z)⟩
 |_=>cases es
theorem Im:DV X (λx lo hi H Q=>∃z,x=.str z/\z.length<=sizeLine/\Q (.str (Txt.slice z lo hi)) H):=by
 intro ae s σ H x v vl U lo hi sl Q I T hs pl O h;obtain⟨z,rfl,hz,q⟩:=h;obtain⟨t,rfl⟩:=T;have fin:∀lo hi,Q (.str (Txt.slice z lo hi)) H->(Txt.slice z lo hi).length<=sizeLine/\∀t' k,EP X ae σ Q (.str (Txt.slice z lo hi) t') { s with toks:=k }:=λlo hi q=>
  ⟨vR (Txt.slice_le z _ _) hz,λt' k=>⟨.str _,H,I.tok k,⟨t',rfl⟩,q⟩⟩
 refine⟨"str",_,PySem.F.slot_str_getitem.lookup,typeIs_str _ _ _,?_⟩;cases pl with
 |none=>
  cases O with
  |none=>exact wpAny_getItem_str_slice (l:=none) (u:=none) (st:=none) hs rfl (post_val_or_str (fin _ _ q))
  |int j M=>exact wpAny_getItem_str_slice (l:=none) (u:=some (j,M)) (st:=none) hs rfl (post_val_or_str (fin _ _ q))
 |int i ti=>
  cases O with
  |none=>exact wpAny_getItem_str_slice (l:=some (i,ti)) (u:=none) (st:=none) hs rfl (post_val_or_str (fin _ _ q))
  |int j M=>exact wpAny_getItem_str_slice (l:=some (i,ti)) (u:=some (j,M)) (st:=none) hs rfl (post_val_or_str (fin _ _ q))
theorem CV {A:Around}{E:QV}{s:Shared}{prog:Program}{w:World}{t sl:Addr}{items:AV}{vl c:Value}{lo hi:OI}{Q:QV}(M:IsTup s.heap t items)(hs:s.heap.IsSliceOf sl vl c .none)(pl:IsPart vl lo)(d:IsPart c hi)
  (h0:HT.eG items.size 0 lo=0) (h1:HT.eG items.size items.size hi=items.size) (h:Q (.ref t) s):wpAny (model prog w) A (getItem (.ref t) (.ref sl)) Q E s:=by
 obtain⟨os,O,T,g⟩:=id hs
 have f:s.TypeIs (.ref sl) "slice":=⟨os,O,T⟩
 unfold getItem
 try with_reducible refine wpAny_holding ?_
 first|refine wX (wY ?_)|skip
 refine wX (wpAny_sequenceKey M.typeIs (by decide) ?_)
 refine wX (wpAny_callSpecial?_slot (name:=Str.ofString "__getitem__") M.typeIs PyProof.Rows.slot_tuple_getitem (wpAny_call_entry PyProof.Rows.slot_tuple_getitem M.typeIs entry_tuple_getitem ?_ (args_tuple_getitem _ _)))
 show wpAny _ _ (Builtin.Tuple.tupleItemsOf (.ref t)>>=_) _ _ s
 refine wX (tupleItemsOf_ M ?_)
 refine wX (wpAny_typeOf f ?_)
 rw[if_pos (by decide)]
 refine wX (HT.jj hs pl d ?_)
 have U:(((HT.eG items.size 0 lo:Nat):Int) == 0 && (1:Int) == 1 && (HT.eG items.size items.size hi - HT.eG items.size 0 lo) == items.size)=true:=by
  rw[h0,h1];simp
 show wpAny _ _ (if(((HT.eG items.size 0 lo:Nat):Int) == 0 && (1:Int) == 1 && (HT.eG items.size items.size hi - HT.eG items.size 0 lo) == items.size)=true then _ else _) _ _ s
 rw[if_pos U]
 refine wX ?_
 unfold Builtin.Tuple.tupleIsExact
 refine wX (wpAny_typeOf M.typeIs (wY ?_))
 show wpAny _ _ (if((Value.type "tuple") == Value.type "tuple")=true then _ else _) _ _ s
 rw[if_pos (by decide)]
 refine wX (wpAny_rule ?_)
 exact wY ⟨_,rfl,wY h⟩
theorem Io:DV X (λx lo hi H Q=>∃a xs,x=.ref a/\ji X.K H a xs/\HT.eG xs.length 0 lo=0/\HT.eG xs.length xs.length hi=xs.length/\Q (.ref a) H):=by
 intro ae s σ H x v vl c lo hi sl Q I T hs pl U h;obtain⟨a,xs,rfl,hx,h0,h1,q⟩:=h;cases T
 obtain⟨its,r,O,hz⟩:=I.tuple hx;have M:its.toArray.size=xs.length:=by rw[vH];exact r.length.symm
 refine⟨"tuple",_,PyProof.Rows.slot_tuple_getitem.lookup,O.typeIs,?_⟩;exact CV O hs pl U (by rw[M];exact h0) (by rw[M];exact h1) ⟨.ref a,H,I,rfl,q⟩
@[simp] def Bh (fa:FE)(fl M:FO):FE:=λρ=>(fa ρ).bind λx=>(fl ρ).bind λl=>(M ρ).bind λh=>match x.1 with
 |.lst ds=>some (.lst (jF ds l h),true)
 |.tup ds=>some (.tup (jF ds l h),false)
 |.str z=>if z.length<=sizeLine then some (.str (Txt.slice z l h),false)else none
 |_=>none
theorem zW {ds:LD}{lo hi:OI}(h0:HT.eG ds.length 0 lo=0)(h1:HT.eG ds.length ds.length hi=ds.length):jF ds lo hi=ds:=by
 unfold jF;rw[h0,h1];simp
theorem js {lo hi:Option Expr}{p2:Pos}{fa:FE}{fl f:FO}(ha:JE X e fa)(hl:JO X lo fl)(hh:JO X hi f):JE X (.Subscript e (.Slice lo hi none p2) pos) (Bh fa fl f):=by
 refine PE.to (Ek (DV.or (DV.or HE L1) (DV.or Im Io)) ha hl hh) λσ H Q q=>?_;obtain⟨B,ρ,d,b,i,r,e,q⟩:=q;obtain⟨x,ex,e⟩:=oX e;obtain⟨l,j,e⟩:=oX e;obtain⟨h,k,e⟩:=oX e;refine⟨B,ρ,x.1,x.2,i,r,ex,λv n N1 M g _=>⟨N1,ρ,l,M.nh,r.mono M.bn,j,λH2 h2=>⟨N1,ρ,h,M.nh.trans h2,r.mono M.bn,k,λm h3=>?_⟩⟩⟩;have O:aT N1 m:=M.nh.trans (h2.trans h3);have U:=q.into (M.trans (.grow M.nh (h2.trans h3)));obtain⟨xd,s⟩:=x;dsimp only at e g;cases g with
 |@tup c vs ds hs hv=>
  cases e
  by_cases hw:HT.eG ds.length 0 l=0/\HT.eG ds.length ds.length h=ds.length
  ·rw[zW hw.1 hw.2]at U;exact .inr (.inr ⟨c,vs,rfl,bv O hs,by rw[hv.length];exact hw.1,by rw[hv.length];exact hw.2,U.one O (.tup hs hv)⟩)
  ·refine .inl (.inr ⟨c,vs,rfl,bv O hs,by rw[hv.length];exact hw,λp hp=>?_⟩);have T:=Ext.laid (o:=.tup (sQ vs l h)) O hp;exact U _ _ _ T (.tup (ji.of aA) ((wl hv).mono T.bn)) (by simp)
 |@lst c vs ds hs hv=>
  cases e
  refine .inl (.inl ⟨c,vs,rfl,O.seq hs,λp hp=>?_⟩);have T:=Ext.laid (o:=.lst (sQ vs l h)) O hp;exact U _ _ _ T (.lst (fx.of aA) ((wl hv).mono T.bn)) λ_=>⟨p,_,_,rfl,rfl,hp,aA,(wl hv).mono T.bn⟩
 |str z=>
  dsimp only at e;split at e
  ·rename_i hz;cases e
   exact .inr (.inl ⟨z,rfl,hz,U.one O (.str _)⟩)
  ·cases e
 |_=>cases e
noncomputable def wt:Value->D->Bool
 |.none,.non=>true
 |.bool a,.bl b=>a == b
 |.int i _,.int j=>decide (i=j)
 |.str i _,.str j=>decide (i=j)
 |_,_=>false
def jG:LU->LD->Bool
 |[],[]=>true
 |u::us,d::ds=>wt u d && jG us ds
 |_,_=>false
theorem kZ {K:Frag}{B:Hp}:∀ {u:Value}{d:D},wt u d=true->∃v,aZ v u/\Is K B v d
 |.none,.non,_=>⟨.non,rfl,.non⟩
 |.bool a,.bl b,h=>by
  have:a=b:=eq_of_beq h;subst this;exact⟨.bl a,rfl,.bl a⟩
 |.int i t,.int j,h=>by
  have:i=j:=DQ h;subst this;exact⟨.int i,⟨t,rfl⟩,.int i⟩
 |.str i t,.str j,h=>by
  have:i=j:=DQ h;subst this;exact⟨.str i,⟨t,rfl⟩,.str i⟩
theorem jH {K:Frag}:∀ {us:LU}{ds:LD},jG us ds=true->∃vs,L2.bj vs us/\∀B,IsL K B vs ds
 |[],[],_=>⟨[],.nil,λ_=>.nil⟩
 |u::us,d::ds,h=>by
  rw[jG,vC]at h;obtain⟨vs,r,i⟩:=jH (K:=K) h.2;obtain⟨v,O,_⟩:=kZ (K:=K) (B:=λ_=>none) h.1;refine⟨v::vs,.cons O r,λB=>?_⟩;obtain⟨U,M,c⟩:=kZ (K:=K) (B:=B) h.1;have:U=v:=by have T:=O.abs;rw[M.abs]at T;exact vK T
  subst this;exact .cons c (i B)
theorem const_tup {K:Frag}{y:Str}{a:Addr}{od:Option Addr}{its:AV}{n:Nat}{oi:Array (Option Value)}{ds:LD}(e:nsIn K mainGlobals y=some (some (.ref a)))
  (l:K.lookup a=some ⟨.type "tuple",od,.seq its n,oi⟩) (h:(decide (its.size<=1000) && jG its.toList ds)=true):∃u v,nsIn K mainGlobals y=some (some u)/\aZ v u/\∀B,Is K B v (.tup ds):=by
 rw[vC]at h;obtain⟨vs,r,i⟩:=jH (K:=K) h.2;exact⟨_,.ref a,e,rfl,λB=>.tup (.inr ⟨_,its,n,l,rfl,rfl,le_of_lt (lt_of_le_of_lt (DQ h.1) (by decide)),r⟩) (i B)⟩
end
section
variable {X:Cx}{a b o e:Expr}{pos:Pos}{x:Str}{p:Pos}{tg:Expr}
theorem LZ {name:Str}{id:String}{dI cL:Pos}{op:D->D->OB}{f fe:FE}(slot:Slot "str" name id)(j:typeOf (.builtin id)=pure (.type "method_descriptor"))
  (hm:HC X id (λx xs H Q=>∃y,xs=[y]/\rD X.K op x y H Q)) (k:∀dx l r,op dx l=some r->∃z,dx=.str z) (m:JE X o f) (he:JE X e fe)
  (M:attributeBase o name X.env (eval o X.env)=eval o X.env:=by rfl)
  (n:((backTo cL (starEach [e] X.env)).all (λx=>!x.1) && (backToKw cL (keywordEach [] X.env)).all (λx=>x.1.isSome)
   && decide ([e].length+([]:List Keyword).length+(if([]:List Keyword).isEmpty then 0 else 1)<30))=true:=by rfl)
  (O:(dI.endLine == cL.line)=true:=by rfl) (hs:starEach [e] X.env=[(false,eval e X.env)]:=by rfl):
  JE X (.Call (.Attribute o name dI) [e] [] cL) (f2 op f fe):=by
 refine PE.to (AL PySem.F.plainAttrs_str slot j hm m (cO he gI hs) M n O hs rfl) λσ H Q q=>?_;obtain⟨B,ρ,d,bb,s,r,U,q⟩:=q;obtain⟨g,ex,U⟩:=oX U;obtain⟨c,t,U⟩:=oX U;obtain⟨z,hz⟩:=k _ _ _ U;refine⟨B,ρ,g.1,g.2,s,r,ex,λv A N1 T h _=>?_⟩;rw[hz]at h;cases h
 refine⟨show "str" = "str" from rfl,N1,ρ,c.1,c.2,T.nh,r.mono T.bn,t,λu H2 N2 i w _=>⟨u,rfl,N2,.str z,c.1,d,bb,i.nh,.str z,w,by rw[<-hz];exact U,q.into (T.trans i)⟩⟩
@[simp] noncomputable def Ma:D->Option Str
 |.str z=>some z
 |_=>none
def iO:LD->Option LS
 |[]=>some []
 |d::ds=>(Ma d).bind λz=>(iO ds).map (z :: ·)
@[simp] theorem Ny:iO []=some []:=rfl
@[simp] theorem zX (d:D)(ds:LD):iO (d::ds)=(Ma d).bind λz=>(iO ds).map (z :: ·):=rfl
@[simp] theorem Nz (zs:LS):iO (zs.map D.str)=some zs:=by
 induction zs with
 |nil=>rfl
 |cons z zs M=>simp[M]
theorem ky {K:Frag}{B:Hp}:∀ {vs:LV}{ds:LD}{zs:LS}{its:LU},L2.bj vs its->IsL K B vs ds->iO ds=some zs->StrsAre its zs
 |_,_,_,_,.nil,.nil,e=>by cases e;exact .nil
 |_,_,_,_,.cons r O,.cons i T,e=>by
  rw[zX]at e;obtain⟨z,M,e⟩:=oX e;obtain⟨zs,e2,e⟩:=oY e;subst e;cases i<;>simp only[Ma]at M<;>try (cases M;done)
  cases M
  obtain⟨t,rfl⟩:=r;exact .cons _ t (ky O T e2)
@[simp] def oy:D->D->OB
 |.str M,.lst ds=>(iO ds).bind λzs=>if(zs.map (·.length)).sum+zs.length*M.length<=16777216 then some (.str (Txt.join M zs),false)else none
 |.str M,.tup ds=>(iO ds).bind λzs=>if(zs.map (·.length)).sum+zs.length*M.length<=16777216 then some (.str (Txt.join M zs),false)else none
 |_,_=>none
theorem Mb:HC X "str.join" (λx xs H Q=>∃y,xs=[y]/\rD X.K oy x y H Q):=by
 intro ae s σ H x xs v us Q I g rs h;obtain⟨y,rfl,B,dx,m,d,bb,O,i,j,M,q⟩:=h;obtain⟨n,rfl,f⟩:=hG rs;cases i<;>(try (simp[oy]at M;done))
 obtain⟨t,rfl⟩:=g;cases j<;>(try (simp[oy]at M;done))
 ·rename_i h hl;simp only[oy]at M;obtain⟨zs,T,M⟩:=oX M;split at M
  ·rename_i hok;cases M
   cases f
   obtain⟨its,U,c,l⟩:=I.tuple (bv O h);exact join_tuple c (by simpa using ky U hl T) hok λt' k=>⟨.str _,H,I.tok k,⟨t',rfl⟩,q.one O (.str _)⟩
  ·cases M
 ·rename_i h hl;simp only[oy]at M;obtain⟨zs,T,M⟩:=oX M;split at M
  ·rename_i hok;cases M
   cases f
   obtain⟨its,U,c,l⟩:=I.list (O.seq h);exact join_list c.isList (by simpa using ky U hl T) hok λt' k=>⟨.str _,H,I.tok k,⟨t',rfl⟩,q.one O (.str _)⟩
  ·cases M
theorem EN (dx M:D)(r:D×Bool)(h:oy dx M=some r):∃z,dx=.str z:=by
 cases dx<;>first|exact⟨_,rfl⟩|(cases M<;>simp[oy]at h)
noncomputable def gP:LN->LD->Env->Option Env
 |[],[],ρ=>some ρ
 |i::is,d::ds,ρ=>gP is ds (ρ.set i (some (d,false)))
 |_,_,_=>none
@[simp] theorem tO (ρ:Env):gP [] [] ρ=some ρ:=by rw[gP]
@[simp] theorem lO (i:Nat)(is:LN)(d:D)(ds:LD)(ρ:Env):gP (i::is) (d::ds) ρ=gP is ds (ρ.set i (some (d,false))):=by rw[gP]
@[simp] theorem OK (d:D)(ds:LD)(ρ:Env):gP [] (d::ds) ρ=none:=by simp only[gP]
@[simp] theorem OL (i:Nat)(is:LN)(ρ:Env):gP (i::is) [] ρ=none:=by simp only[gP]
@[simp] def Kp (is:LN):FG:=λd ρ=>match d with|.tup ds=>gP is ds ρ|_=>none
def qj:LN->Lh
 |[]=>Oc
 |i::is=>Kb (gZ i) (qj is)
theorem EO:aT (eE N (own σ ρ)) (eE N (own (σ.set i (some v)) (ρ.set i (some (d,false))))):=eY λa u e q=>⟨e,λz=>q (by
 rcases wa z with⟨_,d',p⟩|⟨j,_,d',M,O⟩
 ·cases p
 ·exact⟨j,d',M,O⟩)⟩
theorem tP {K:Frag}:∀ {is:LN}{vs:LV}{ds:LD}{B0 H0 N H:Hp}{σ:St}{ρ ρ':Env}{Q:St->Hp->Prop},eO K B0 H0 N H σ ρ->IsL K (eE N (own σ ρ)) vs ds->gP is ds ρ=some ρ'->(∀M,eO K B0 H0 N H M ρ'->Q M H)->qj is vs σ H Q
 |[],_,_,_,_,_,_,_,_,_,_,s,.nil,e,k=>by
  rw[tO]at e;cases e;exact⟨rfl,k _ s⟩
 |[],_,_,_,_,_,_,_,_,_,_,_,.cons _ _,e,_=>by simp at e
 |_::_,_,_,_,_,_,_,_,_,_,_,_,.nil,e,_=>by simp at e
 |i::is,_,_,_,_,_,_,_,_,_,_,s,.cons h hs,e,k=>by
  rw[lO]at e;exact⟨_,_,rfl,tP (s.bind h) (hs.mono EO) e k⟩
theorem nB:∀ {is:LN}{ds:LD}{ρ ρ':Env},gP is ds ρ=some ρ'->ds.length=is.length
 |[],[],_,_,_=>rfl
 |_::_,_::_,_,_,e=>by rw[lO]at e;simp[nB e]
 |[],_::_,_,_,e=>by simp at e
 |_::_,[],_,_,e=>by simp at e
theorem OM {K:Frag}{is:LN}:HQ K (Kp is) (Lj K is.length (qj is)):=by
 intro B0 H0 N H σ ρ ρ' v d Q s h e k;cases h with
 |@tup a vs ds T hl=>
  have O:gP is ds ρ=some ρ':=e;exact⟨a,vs,rfl,bv (bV.trans s.ext.nh) T,by rw[hl.length];exact nB O,tP s hl O λM s'=>k M H ⟨N,s'⟩⟩
 |_=>cases e
theorem tQ {K:Frag}{n:Nat}{B H:Hp}{O:Env}{Q:St->Hp->Prop}(cl:∀i,i<n->O[i]? = some none):∀ {is:LN}{vs:LV}{ds:LD}{σ:St}{ρ T:Env},(∀i∈is,i<n)->eU K B σ ρ->IsL K B vs ds->gP is ds ρ=some T->ρ.length=σ.length->ρ.length=O.length ->
  (∀M,eU K B M T->(∀c,eU K c σ O->eU K c M O)->O.length=M.length->Q M H)->qj is vs σ H Q
 |[],_,_,_,_,_,_,rp,.nil,e,f,g,k=>by
  rw[tO]at e;cases e;exact⟨rfl,k _ rp (λ_ z=>z) (by lia)⟩
 |[],_,_,_,_,_,_,_,.cons _ _,e,_,_,_=>by simp at e
 |_::_,_,_,_,_,_,_,_,.nil,e,_,_,_=>by simp at e
 |i::is,_,_,σ,ρ,_,hn,rp,.cons (v:=v) h hs,e,f,g,k=>by
  rw[lO]at e;have hi:=hn i mX;have U:i<σ.length:=by
   have:=(vV (cl i hi)).1;lia
  refine⟨_,_,rfl,tQ cl (λj hj=>hn j (mZ _ hj)) ⟨rp.tb,λj d b q=>?_⟩ hs e (by simpa using f) (by simpa using g) λM m r l=>k M m (λc z=>r c ⟨z.tb,λj d b q=>?_⟩) l⟩
  ·rcases cx q with⟨rfl,pp⟩|⟨ne,pp⟩
   ·cases pp
    exact⟨v,by simp[U],h⟩
   ·obtain⟨w,h1,h2⟩:=rp.at' j d b pp;exact⟨w,by rw[vB ne];exact h1,h2⟩
  ·obtain⟨w,h1,h2⟩:=z.at' j d b q;have ne:i≠j:=λz=>by subst z;rw[cl i hi]at q;cases q
   exact⟨w,by rw[vB ne];exact h1,h2⟩
theorem EQ {K:Frag}{n:Nat}{is:LN}(hn:∀i∈is,i<n):E4 K n (Kp is) (Lj K is.length (qj is)):=by
 intro B H σ ρ M v d Q cl rep s h e hl k;cases h with
 |@tup a vs ds T hv=>
  have O:gP is ds ρ=some M:=e;exact⟨a,vs,rfl,bv s T,by rw[hv.length];exact nB O,tQ cl hn rep hv O hl rfl k⟩
 |_=>cases e
end
section
variable {prog:Program}{w:World}{A:Around}{E:QV}{s:Shared}
theorem zY (st:s.heap.IsTupleIter it l i)(M:s.heap.IsTuple l items)(hv:items[i]? = some v)
  (k:∀h',h'.IsTupleIter it l (i+1)->Heap.SameBut it s.heap h'->Q v { s with heap:=h' }):wpAny (model prog w) A (Builtin.SmallTypes.nextOf (.ref it)) Q E s:=by
 obtain⟨T,g1,c1,d1⟩:=id st;obtain⟨U,O,_,n2,d2⟩:=M;unfold Builtin.SmallTypes.nextOf;refine wX (wpAny_callSpecial?_slot (name:=Str.ofString "__next__") st.typeIs slot_tuple_iterator_next (wpAny_call_entry slot_tuple_iterator_next st.typeIs PySem.F.entry_tuple_iterator_next ?_ (PySem.F.args_tuple_iterator_next_1 _)));show wpAny _ _ (field (.ref it) 0>>=_) _ _ _;refine wX (wpAny_field g1 d1 (x:=.ref l) rfl ?_);show wpAny _ _ (if(Value.ref l == Value.none)=true then _ else _) _ _ _;rw[if_neg (λz=>uX z:¬((Value.ref l == Value.none)=true))];show wpAny _ _ (field (.ref it) 1>>=_) _ _ _;refine wX (wpAny_field g1 d1 (x:=.int i 0) rfl ?_);show wpAny _ _ (seqItems? (.ref l)>>=_) _ _ _;refine wX (wpAny_seqItems O d2 ?_);simp only[hv,toNat_natCast];refine wX (wpAny_setField g1 d1 (by simp) (wY ⟨v,rfl,wY (k _ ?_ (vW ..))⟩));exact⟨_,Heap.get?_update_self _ g1 (Obj.isFreed_of_fields (Obj.data_mapFields d1 _)),(Obj.cls_mapFields ..).trans c1,by rw[Obj.data_mapFields d1];simp[rawInt]⟩
theorem CW (M:A.handled=none)(st:s.heap.IsTupleIter it l i)(O:s.heap.IsTuple l items)(hv:items[i]? = none)
  (k:∀h' x,Heap.ExtBut it s.heap h'->(∃o,h'.get? x=some o/\o.cls=.type "StopIteration")->E (.ref x) { s with heap:=h' }):wpAny (model prog w) A (Builtin.SmallTypes.nextOf (.ref it)) Q E s:=by
 obtain⟨U,g1,c1,d1⟩:=id st;obtain⟨b,T,_,n2,d2⟩:=O;unfold Builtin.SmallTypes.nextOf;refine wX (wpAny_callSpecial?_slot (name:=Str.ofString "__next__") st.typeIs slot_tuple_iterator_next (wpAny_call_entry slot_tuple_iterator_next st.typeIs PySem.F.entry_tuple_iterator_next ?_ (PySem.F.args_tuple_iterator_next_1 _)));show wpAny _ _ (field (.ref it) 0>>=_) _ _ _;refine wX (wpAny_field g1 d1 (x:=.ref l) rfl ?_);show wpAny _ _ (if(Value.ref l == Value.none)=true then _ else _) _ _ _;rw[if_neg (λz=>uX z:¬((Value.ref l == Value.none)=true))];show wpAny _ _ (field (.ref it) 1>>=_) _ _ _;refine wX (wpAny_field g1 d1 (x:=.int i 0) rfl ?_);show wpAny _ _ (seqItems? (.ref l)>>=_) _ _ _;refine wX (wpAny_seqItems T d2 ?_);simp only[hv,toNat_natCast];refine wX (wpAny_rule (wX (wpAny_setField g1 d1 (by simp) ?_)));show wpAny _ _ (newExc (.type "StopIteration") []>>=_) _ _ _;refine wX ?_;simp only[newTuple,newExc];refine wX (wpAny_newObj_type ?_ (by size_fits));refine wX (m:=firstArgMember _ _) (wpAny_of_eq (a:=Value.none) (by first|(simp only[firstArgMember];rfl)|rfl) ?_);refine wpAny_newObj_type ?_ (by size_fits);simp only[raiseNew];refine wX (wpAny_handled ?_);first|rw[M]|rw[show A.in1.handled=none from M]
 exact wX (wY (wpAny_throw (k _ _ (((vW ..).extBut.push _).push _) ⟨_,vY _ rfl,rfl⟩)))
end
def Bi:Bool->Heap->Addr->Addr->Nat->Prop
 |true,h,it,a,i=>h.IsListIter it a i
 |false,h,it,a,i=>h.IsTupleIter it a i
def zA:Bool->Heap->Addr->AV->Prop
 |true,h,a,items=>h.IsList a items
 |false,h,a,items=>h.IsTuple a items
def zZ (k:Bool)(K:Frag)(H:Hp)(a:Addr)(xs:LV):Prop:=match k with|true=>fx K H a xs|false=>ji K H a xs
theorem Bi.ob (st:Bi k h it a i):∃o,h.get? it=some o/\∀v,o.data≠.cell v:=by
 cases k<;>(obtain⟨o,g,_,d⟩:=st;exact⟨o,g,λv z=>by rw[d]at z;cases z⟩)
theorem Bi.upon (st:Bi k h it a i)(g:∀o,h.get? it=some o->h'.get? it=some o):Bi k h' it a i:=by
 cases k<;>(obtain⟨o,e,r⟩:=st;exact⟨o,g o e,r⟩)
theorem zA.upon (st:zA k h a items)(g:∀o,h.get? a=some o->h'.get? a=some o):zA k h' a items:=by
 cases k<;>(obtain⟨o,e,r⟩:=st;exact⟨o,g o e,r⟩)
theorem zA.lt (st:zA k h a items):a<h.objs.size:=by
 cases k<;>(obtain⟨o,e,r⟩:=st;exact vX e)
theorem zZ.same {k:Bool}{K:Frag}{H H':Hp}{a:Addr}{xs:LV}(h:zZ k K H a xs)(e:aT H H'):zZ k K H' a xs:=by
 cases k
 ·exact bv e h
 ·exact e.seq h
theorem zZ.vals (I:Inv X ae σ H s)(h:zZ k X.K H a xs):∃its:LU,bj xs its/\zA k s.heap a its.toArray/\xs.length<=sizeLine:=by
 cases k
 ·exact I.tuple h
 ·obtain⟨its,r,p,z⟩:=I.list h;exact⟨its,r,p.isList,z⟩
theorem zZ.inj (I:Inv X ae σ H s)(h:zZ k X.K H a xs)(h':zZ k X.K H a ys):xs=ys:=by
 cases k
 ·exact I.tuple_inj h h'
 ·exact I.list_inj h h'
section
variable {prog:Program}{w:World}{A:Around}{E:QV}{s:Shared}
theorem CY (st:Bi k s.heap it l i)(M:zA k s.heap l items)(hv:items[i]? = some v)
  (q:∀h',Bi k h' it l (i+1)->Heap.SameBut it s.heap h'->Q v { s with heap:=h' }):wpAny (model prog w) A (Builtin.SmallTypes.nextOf (.ref it)) Q E s:=by
 cases k
 ·exact zY st M hv q
 ·exact wpAny_nextOf_list_item st M hv q
theorem yf (M:A.handled=none)(st:Bi k s.heap it l i)(O:zA k s.heap l items)(hv:items[i]? = none)
  (q:∀h' x,Heap.ExtBut it s.heap h'->(∃o,h'.get? x=some o/\o.cls=.type "StopIteration")->E (.ref x) { s with heap:=h' }):wpAny (model prog w) A (Builtin.SmallTypes.nextOf (.ref it)) Q E s:=by
 cases k
 ·exact CW M st O hv q
 ·exact wpAny_nextOf_list_end M st O hv q
end
noncomputable def Mc (k:Bool)(l:Addr):Obj:={ cls:=.type (if k=true then "list_iterator" else "tuple_iterator"),data:=.fields #[.ref l,.int 0 0] }
theorem wu (M:zA k s.heap l items)
  (q:Q (.ref s.heap.objs.size) { s with heap:=s.heap.push (Mc k l) }):wpAny (model prog w) A (pyIter (.ref l)) Q E s:=by
 cases k
 ·exact wpAny_pyIter_tuple M q
 ·exact wpAny_pyIter_list M q
theorem zA.push (st:zA k h a items)(o:Obj):zA k (h.push o) a items:=st.upon λ_ e=>vZ _ e
theorem m4 {X:Cx}{ae:AO}{σ:St}{H:Hp}{s:Shared}{h':Heap}{t':Nat}{ch:List Addr}(I:Inv X ae σ H s)(f:∀b∈ch,no X ae H b)(k:∀b o,b∉ch->s.heap.get? b=some o->h'.get? b=some o):Inv X ae σ H { s with heap:=h',toks:=t' }:=by
 have M:∀b u,H b=some u->b∉ch:=λb u e z=>by rw[(f b z).1]at e;cases e
 refine I.step (g':=s.gens) (d':=s.drawn) (ch:=ch) (λb hb=>?_) (λb o _ _ hc e _=>k b o hc e) (λb o _ _ hc e _=>⟨o.slots,k b o hc e⟩) (λ_ _ _ _ n=>n)
  (λb o hc e=>⟨o,k b o hc e⟩) (λ_ _ e=>e) (λ_ _ _ e=>e) (λ_ _ e=>e) (λm hm=>?_) (λb u e=>?_) I.bare
 ·obtain⟨_,f1,_,f3,f4,f5⟩:=f b hb;exact⟨f3,f1,f4,f5⟩
 ·obtain⟨o,es,O,T,r⟩:=hm;exact⟨o,es,O,k _ o (λz=>(f _ z).2.1 rfl) T,r⟩
 ·refine(I.hok b u e).stay (λc v hc q=>k c v ?_ q) (λ_ q=>q) (λ_ _ q=>q) λ_ _ _ q=>q;rcases hc with z|z
  ·rw[z];exact M b u e
  ·exact M c _ z
theorem ER {X:Cx}{ae:AO}{σ:St}{H:Hp}{s:Shared}{h':Heap}{t':Nat}{ch:List Addr}{a:Addr}{ob:HO}(I:Inv X ae σ H s)(f:∀b∈ch,no X ae H b)(k:∀b o,b∉ch->s.heap.get? b=some o->h'.get? b=some o)(ha:s.heap.objs.size<=a)
  (new:c7 X.prog X.w (upd H a ob) h' a ob):Inv X ae σ (upd H a ob) { s with heap:=h',toks:=t' }:=by
 have hn:H a=none:=I.hok.fresh ha;have M:∀b u,H b=some u->b∉ch:=λb u e z=>by rw[(f b z).1]at e;cases e
 have O:∀b o,s.heap.get? b=some o->b≠a:=λb o e=>vS (vQ (vX e) ha);refine I.step (g':=s.gens) (d':=s.drawn) (ch:=ch) (λb hb=>?_) (λb o _ _ hc e _=>k b o hc e) (λb o _ _ hc e _=>⟨o.slots,k b o hc e⟩) (λb o _ e n=>by rw[aD (O b o e)];exact n)
  (λb o hc e=>⟨o,k b o hc e⟩) (λb xs e=>by rw[aD (bd e hn)];exact e) (λb o u e=>by rw[aD (bd e hn)];exact e) (λb ps e=>by rw[aD (bd e hn)];exact e) (λm hm=>?_) (λb u e=>?_) I.bare
 ·obtain⟨_,f1,_,f3,f4,f5⟩:=f b hb;exact⟨f3,f1,f4,f5⟩
 ·obtain⟨o,es,T,U,r⟩:=hm;exact⟨o,es,T,k _ o (λz=>(f _ z).2.1 rfl) U,r⟩
 ·by_cases hb:b=a
  ·subst hb;rw[aA]at e;cases e;exact new
  ·rw[aD hb]at e;refine(I.hok b u e).stay (λc v hc q=>k c v ?_ q) (λc q=>?_) (λc xs q=>?_) λc o xs q=>?_
   ·rcases hc with z|z
    ·rw[z];exact M b u e
    ·exact M c _ z
   ·rw[aD (bd q hn)];exact q
   ·rw[aD (bd q hn)];exact q
   ·rw[aD (bd q hn)];exact q
section
variable {X:Cx}{a b e:Expr}{pos:Pos}{p:Pos}
theorem ON:bootBuiltins "zip" = some (.type "zip"):=by decide +kernel
noncomputable def CZ (xs ys:LD):LD:=List.zipWith (λx y=>.tup [x,y]) xs ys
theorem OO {K:Frag}{B:Hp}{v:V}{d:D}{ds:LD}(h:Is K B v d)(e:jq d=some ds):∃k a vs,v=.ref a/\zZ k K B a vs/\IsL K B vs ds:=by
 cases h with
 |tup M hl=>cases e;exact⟨false,_,_,rfl,M,hl⟩
 |lst M hl=>cases e;exact⟨true,_,_,rfl,M,hl⟩
 |_=>cases e
end
noncomputable def unown1 (ρ:Env)(i:Nat):Env:=match ρ[i]? with
 |some (some (d,true))=>ρ.set i (some (d,false))
 |_=>ρ
theorem eO.unown1 {K:Frag}{B0 H0 N H:Hp}{σ:St}{ρ:Env}(s:eO K B0 H0 N H σ ρ)(i:Nat):eO K B0 H0 N H σ (unown1 ρ i):=by
 unfold DL.unown1;split
 ·rename_i d hd;obtain⟨a,ob,h1,h2,h3,h4⟩:=s.ow i d hd;have get:∀ {j:Nat}{e:D}{b:Bool},(ρ.set i (some (d,false)))[j]? = some (some (e,b))->(i=j/\e=d/\b=false)\/(i≠j/\ρ[j]? = some (some (e,b))):=λq=>by
   rcases cx q with⟨z,p⟩|⟨z,p⟩
   ·cases p;exact .inl ⟨z,rfl,rfl⟩
   ·exact .inr ⟨z,p⟩
  have o:∀c,own σ (ρ.set i (some (d,false))) c->own σ ρ c/\c≠a:=λc ⟨j,e,T,O⟩=>by
   rcases get T with⟨_,_,z⟩|⟨ne,q⟩
   ·cases z
   ·exact⟨⟨j,e,q,O⟩,λz=>by subst z;exact ne (s.inj i j _ _ _ hd q h1 O)⟩
  have c:aT (eE N (own σ ρ)) (eE N (own σ (ρ.set i (some (d,false))))):=eY λb u e q=>⟨e,λz=>q (o b z).1⟩;have U:¬own σ (ρ.set i (some (d,false))) a:=λz=>(o a z).2 rfl;refine⟨s.bh,s.tb,s.ext,by rw[length_set];exact s.len,λj e q=>?_,λj e q=>?_,λj k b e f q M g h=>?_⟩
  ·rcases get q with⟨rfl,rfl,_⟩|⟨_,q⟩
   ·exact⟨_,h1,(h4.mono c).is (by rw[da U];exact h2)⟩
   ·obtain⟨v,k1,k2⟩:=s.sh j e q;exact⟨v,k1,k2.mono c⟩
  ·rcases get q with⟨_,_,z⟩|⟨_,q⟩
   ·cases z
   ·obtain⟨l,o',k1,k2,m,n⟩:=s.ow j e q;exact⟨l,o',k1,k2,m,n.mono c⟩
  ·rcases get q with⟨_,_,z⟩|⟨_,q⟩
   ·cases z
   ·rcases get M with⟨_,_,z⟩|⟨_,M⟩
    ·cases z
    ·exact s.inj j k b e f q M g h
 ·exact s
@[simp] noncomputable def RY (is:LN)(g:FS):FS:=λρ=>g (is.foldl unown1 ρ)
theorem eO.unowns {K:Frag}{B0 H0 N H:Hp}{σ:St}:∀(is:LN){ρ:Env},eO K B0 H0 N H σ ρ->eO K B0 H0 N H σ (is.foldl DL.unown1 ρ)
 |[],_,s=>s
 |i::is,_,s=>eO.unowns is (s.unown1 i)
theorem Md {K:Frag}{is:LN}{g:FS}{E:Ends}{σ:St}{H:Hp}(q:ny K (RY is g) E σ H):ny K g E σ H:=by
 obtain⟨B0,H0,ρ,r,⟨N,s⟩,e,p⟩:=q;exact⟨B0,H0,_,r,⟨N,s.unowns is⟩,e,p⟩
theorem OP {X:Cx}{st:Stmt}{g:FS}(is:LN)(h:JS X st g):JS X st (RY is g):=PS.to h λ_ _ _ q=>Md q
@[simp] noncomputable def Kq:FS:=λρ=>some (.ct ρ)
section
variable {X:Cx}{pos:Pos}
theorem Ip:JS X (.Continue pos) Kq:=PS.to xB λE σ H q=>by
 obtain⟨B0,H0,ρ,r,s,e,p⟩:=q;cases e
 exact p σ H s
end
inductive CRows (K:Frag)(P:Params):List DictEntry->List (Str×D)->Prop where
 |nil:CRows K P [] []
 |tup {x:Str}{t:Tok}{h:Int}{a:Addr}{its:Array Value}{n:Nat}{oi:Array (Option Value)}{ds:List D}{r:List DictEntry}{aL:List (Str×D)}(hh:h=PyData.keyHash P x)
   (l:K.lookup a=some ⟨.type "tuple",none,.seq its n,oi⟩) (f:(decide (its.size<=1000) && jG its.toList ds)=true) (tl:CRows K P r aL):CRows K P (⟨h,.str x t,.ref a⟩::r) ((x,.tup ds)::aL)
 |flat {x:Str}{t:Tok}{h:Int}{u:Value}{d:D}{r:List DictEntry}{aL:List (Str×D)}(hh:h=PyData.keyHash P x) (f:wt u d=true) (tl:CRows K P r aL):CRows K P (⟨h,.str x t,u⟩::r) ((x,d)::aL)
theorem CRows.lit {K:Frag}{P:Params}:∀ {es:List DictEntry}{aL:List (Str×D)},CRows K P es aL->PySem.W.KeysLit P es
 |_,_,.nil=>trivial
 |_,_,.tup hh _ _ tl=>⟨⟨_,_,rfl,hh⟩,tl.lit⟩
 |_,_,.flat hh _ tl=>⟨⟨_,_,rfl,hh⟩,tl.lit⟩
theorem CRows.find {K:Frag}{P:Params}(y:Str):∀ {es:List DictEntry}{aL:List (Str×D)},CRows K P es aL->match aL.lookup y with
  |none=>es.find? (λe=>Value.isStrOf y e.key)=none
  |some d=>∃e v,es.find? (λe=>Value.isStrOf y e.key)=some e/\aZ v e.val/\∀B,Is K B v d
 |_,_,.nil=>rfl
 |_,_,.tup (x:=x) (t:=t) (a:=a) (ds:=ds) hh l f tl=>by
  by_cases e:y=x
  ·subst e;rw[lookup_cons_self];rw[vC]at f;obtain⟨vs,r,i⟩:=jH (K:=K) f.2;exact⟨_,.ref a,List.find?_cons_of_pos (by simp[Value.isStrOf]),rfl,λB=>.tup (.inr ⟨_,_,_,l,rfl,rfl,le_of_lt (lt_of_le_of_lt (DQ f.1) (by decide)),r⟩) (i B)⟩
  ·have M:=tl.find y;rw[lookup_cons,beq_eq_false_iff_ne.mpr e];have O:Value.isStrOf y (Value.str x t)=false:=by
    rw[eq_false_iff];intro z;obtain⟨t',q⟩:=Value.isStrOf_shape z;injection q with T;exact e T.symm
   simp only[find?_cons,O];exact M
 |_,_,.flat (x:=x) (t:=t) (u:=u) (d:=d) hh f tl=>by
  by_cases e:y=x
  ·subst e;rw[lookup_cons_self];obtain⟨v,b,_⟩:=kZ (K:=K) (B:=λ_=>none) f;refine⟨_,v,List.find?_cons_of_pos (by simp[Value.isStrOf]),b,λB=>?_⟩;obtain⟨g,U,h⟩:=kZ (K:=K) (B:=B) f;have:g=v:=by have c:=b.abs;rw[U.abs]at c;exact vK c
   subst this;exact h
  ·have M:=tl.find y;rw[lookup_cons,beq_eq_false_iff_ne.mpr e];have O:Value.isStrOf y (Value.str x t)=false:=by
    rw[eq_false_iff];intro z;obtain⟨t',q⟩:=Value.isStrOf_shape z;injection q with T;exact e T.symm
   simp only[find?_cons,O];exact M
def tR (K:Frag)(P:Params)(a:Addr)(aL:List (Str×D)):Prop:=∃es n,K.lookup a=some ⟨.type "dict",none,.dict es n,#[]⟩/\CRows K P es.toList aL/\(a == sysModules)=false
theorem const_dict {K:Frag}{P:Params}{y:Str}{a:Addr}{es:Array DictEntry}{n:Nat}{aL:List (Str×D)}(e:nsIn K mainGlobals y=some (some (.ref a)))(l:K.lookup a=some ⟨.type "dict",none,.dict es n,#[]⟩)(r:CRows K P es.toList aL)(s:(a == sysModules)=false):
  ∃a,nsIn K mainGlobals y=some (some (.ref a))/\tR K P a aL:=⟨a,e,es,n,l,r,s⟩
section
variable {X:Cx}{a b e:Expr}{pos:Pos}{x:Str}{p:Pos}
theorem tR.map {ae:AO}{σ:St}{H:Hp}{s:Shared}{d:Addr}{aL:List (Str×D)}(I:Inv X ae σ H s)(h:tR X.K X.w.params d aL):∃f:SV,s.heap.MapOf (strKind X.prog X.w) d f/\(d == sysModules)=false /\
  ∀y,match aL.lookup y with|none=>f y=none|some dd=>∃u v,f y=some u/\aZ v u/\∀B,Is X.K B v dd:=by
 obtain⟨es,n,l,r,O⟩:=h;refine⟨_,PySem.W.mapOf_K I.kIn l r.lit,O,λy=>?_⟩;have:=r.find y;have M:findBy Value.isStrOf es y=(es.toList.find? λe=>Value.isStrOf y e.key).map (·.val):=by
  unfold findBy;obtain⟨es⟩:=es;rw[List.find?_toArray]
 cases hl:aL.lookup y with
 |none=>rw[hl]at this;dsimp only at this |-;rw[M,this];rfl
 |some dd=>
  rw[hl]at this;obtain⟨en,v,T,e2,U⟩:=this;exact⟨en.val,v,by rw[M,T];rfl,e2,U⟩
@[simp] noncomputable def jI:LD->OB
 |[.lst ds]=>some (.lst ds,true)
 |[.tup ds]=>some (.lst ds,true)
 |_=>none
@[simp] noncomputable def g9:LD->OB
 |[.lst ds]=>some (.tup ds,false)
 |[.tup ds]=>some (.tup ds,false)
 |_=>none
theorem Me:ci X (.type "list") (CM X.K jI):=by
 refine ci.to vx λxs H Q q=>?_;obtain⟨B,ds,d,bb,T,i,M,q⟩:=q;cases i with
 |nil=>simp[jI]at M
 |cons U c=>
  cases c with
  |cons _ _=>cases U<;>simp[jI]at M
  |nil=>
   cases U<;>try (simp[jI]at M;done)
   ·rename_i f vs es h hl;simp only[jI]at M;cases M
    refine⟨_,_,rfl,.inr (bv T h),λl hp=>?_⟩;have O:=Ext.laid (o:=.lst vs) T hp;exact q _ _ _ O (.lst (fx.of aA) (hl.mono O.bn)) λ_=>⟨_,_,_,rfl,rfl,hp,aA,hl.mono O.bn⟩
   ·rename_i f vs es h hl;simp only[jI]at M;cases M
    refine⟨_,_,rfl,.inl (T.seq h),λl hp=>?_⟩;have O:=Ext.laid (o:=.lst vs) T hp;exact q _ _ _ O (.lst (fx.of aA) (hl.mono O.bn)) λ_=>⟨_,_,_,rfl,rfl,hp,aA,hl.mono O.bn⟩
theorem Iq:ci X (.type "tuple") (CM X.K g9):=by
 refine ci.to sU λxs H Q q=>?_;obtain⟨B,ds,d,bb,O,i,M,q⟩:=q;cases i with
 |nil=>simp[g9]at M
 |cons T c=>
  cases c with
  |cons _ _=>cases T<;>simp[g9]at M
  |nil=>
   cases T<;>try (simp[g9]at M;done)
   ·rename_i f vs es h hl;simp only[g9]at M;cases M
    exact⟨_,_,rfl,.inr ⟨bv O h,q.one O (.tup h hl)⟩⟩
   ·rename_i f vs es h hl;simp only[g9]at M;cases M
    refine⟨_,_,rfl,.inl ⟨O.seq h,λl hp=>?_⟩⟩;have U:=Ext.laid (o:=.tup vs) O hp;exact q _ _ _ U (.tup (ji.of aA) (hl.mono U.bn)) (by simp)
end
section
variable {X:Cx}{a b e:Expr}{pos:Pos}{x:Str}{p:Pos}
@[simp] def Aa (i:Nat)(M O:FE):FS:=λρ=>match ρ[i]? with
 |some (some (.lst ds,true))=>(O ρ).bind λv=>(M ρ).bind λk=>match k.1 with
  |.int j=>(CC ds.length j).bind λn=>if bB v.1=true then some (.nx (ρ.set i (some (.lst (ds.set n v.1),true))))else none
  |_=>none
 |_=>none
theorem ES (hv:JE X e fv)(hk:JE X k fk)(f:X.N[i]? = some y:=by rfl)(O:KP X.env.scope y:=by first|exact Or.inl rfl|exact Or.inr (Or.inl rfl)|exact Or.inr (Or.inr rfl))(hd:(y == ("__debug__" : Str))=false:=by decide)
  (U:(y == ("__classdict__" : Str))=false:=by decide)
  (ha:∀v,assign (.Subscript (.Name y py) k pt) X.env v=(do
   let T <-holding [v] (eval (.Name y py) X.env)
   let iv <-holding [v,T] (eval k X.env)
   standAt pt
   holding [v,T,iv] (setItem T iv v)
   release [v,T,iv] []):=by intro _;rfl)
  (hs:swapsWithSole [.Subscript (.Name y py) k pt] e pos.line X.env=pure false:=by rfl) (hw:swappedStores [.Subscript (.Name y py) k pt] e X.env=pure none:=by rfl)
  (h1:(assignEach [.Subscript (.Name y py) k pt] X.env).map (·.2)=[assign (.Subscript (.Name y py) k pt) X.env]:=by rfl):JS X (.Assign [.Subscript (.Name y py) k pt] e pos) (Aa i fk fv):=by
 refine PS.to (Ll hv (Lk (cF f O hd U) hk El ha) hs hw h1) λE σ H q=>?_;obtain⟨B0,H0,ρ,r,⟨N,s⟩,M,p⟩:=q;unfold Aa at M;split at M
 ·rename_i ds ei;obtain⟨v,g,M⟩:=oX M;obtain⟨h,ek,M⟩:=oX M;obtain⟨kd,A⟩:=h;cases kd with
  |int j=>
   dsimp only at M;obtain⟨n,en,M⟩:=oX M;split at M
   ·rename_i hn;cases M
    refine⟨N,ρ,v.1,v.2,s.ext.nh,s.rep,g,λB C N1 m o _=>?_⟩;have s1:=s.grow m;obtain⟨l,vs,t,z,h1,h2,h3,h4⟩:=s1.owL i _ ei;cases z
    refine⟨_,h1,N1,ρ,_,_,s1.ext.nh,s1.rep,ek,λkv H2 N2 c u _=>?_⟩;cases u
    have s2:=s1.grow c;obtain⟨D,w,t,z,k1,k2,F,d⟩:=s2.owL i _ ei;cases z
    rw[h1]at k1;cases k1;exact⟨l,w,j,n,rfl,rfl,s2.ext.nh _ _ k2,by rw[d.length];exact en,p σ _ ⟨_,s2.write ei h1 (IsL.set (s2.flat (o.mono c.bn) hn) n d)⟩⟩
   ·cases M
  |_=>cases M
 ·cases M
@[simp] def Wk (i:Nat)(f:FE):FS:=λρ=>match ρ[i]? with
 |some (some (.lst ds,true))=>(f ρ).bind λx=>match x.1 with
  |.lst es=>if x.2=true/\bE es=true/\ds.length+es.length<=sizeLine then some (.nx (ρ.set i (some (.lst (ds++es),true))))else none
  |_=>none
 |_=>none
@[simp] noncomputable def Ab:LD->OB
 |[.int i]=>some (.int i,false)
 |[.bl b]=>some (.int (if b then 1 else 0),false)
 |_=>none
theorem OQ:ci X (.type "int") (CM X.K Ab):=by
 refine ci.to C9 λxs H Q q=>?_;obtain⟨B,ds,d,bb,O,i,M,q⟩:=q;cases i with
 |nil=>simp[Ab]at M
 |cons T U=>
  cases U with
  |cons _ _=>cases T<;>simp[Ab]at M
  |nil=>
   cases T<;>try (simp[Ab]at M;done)
   ·simp only[Ab]at M;cases M
    exact .inr ⟨_,rfl,q.one O (.int _)⟩
   ·simp only[Ab]at M;cases M
    exact .inl ⟨_,rfl,q.one O (.int _)⟩
end
open AutoSeq1 (wpAny_loadPart')
set_option maxRecDepth 100000
noncomputable def Uo (k:Bool):String:=if k=true then "list" else "tuple"
theorem yg (k:Bool)(l:Addr)(items:AV)(n:Nat)(M:Option Addr)(sl:Array (Option Value)):
  Meets (Builtin.«enumerate.__new__» ⟨[.type "enumerate",.ref l],[]⟩) (λ_ R s=>s.heap.get? l=some { cls:=.type (Uo k),dict:=M,data:=.seq items n,slots:=sl } /\
   R (.ok (.ret (.ref (s.heap.push (Mc k l)).objs.size))) { s with heap:=(s.heap.push (Mc k l)).push { cls:=.type "enumerate",data:=.fields #[.none,.bool false,.ref s.heap.objs.size,rawInt 0,.none,.none] } }) :=
 .of_wp λprog w A R s hs=>by
  obtain⟨hp,g,d,tk,os⟩:=s;obtain⟨hl,hs⟩:=hs;have T:=sub_enumerate;have O:zA k (Shared.heap ⟨hp,g,d,tk,os⟩) l items:=by cases k<;>exact⟨_,hl,rfl,n,rfl⟩
  wp_walk using wpAny_loadPart' hl;refine wpAny_stack_any λst=>wY ?_;split
  ·rename_i c _ _ _ _ _;cases (c == Value.type "enumerate")
   ·wp_walk using wpAny_loadPart' hl,wu O;exact⟨_,rfl,hs⟩
   ·wp_walk using wpAny_loadPart' hl,wu O;exact⟨_,rfl,hs⟩
  ·wp_walk using wpAny_loadPart' hl,wu O;exact⟨_,rfl,hs⟩
section
variable {prog:Program}{w:World}{A:Around}{E:QV}{s:Shared}
theorem ET (T:zA k s.heap l items)
  (q:∀h',IsEnum h' (s.heap.objs.size+1) s.heap.objs.size 0 .none->Bi k h' s.heap.objs.size l 0->(∀b o,s.heap.get? b=some o->h'.get? b=some o)->Q (.ref (s.heap.objs.size+1)) { s with heap:=h' }):
  wpAny (model prog w) A (call (.type "enumerate") [.ref l]) Q E s:=by
 have hh:∃(M:Option Addr)(sl:Array (Option Value))(n:Nat),s.heap.get? l=some { cls:=.type (Uo k),dict:=M,data:=.seq items n,slots:=sl }:=by
  cases k<;>(obtain⟨⟨c,M,dt,sl⟩,hl,hc,n,hd⟩:=T;dsimp only at hc hd;subst hc;subst hd;exact⟨M,sl,n,hl⟩)
 obtain⟨M,sl,n,hl⟩:=hh;refine callType_new PySem.F.called_enumerate (by decide) (PySem.F.typeCall_enumerate_1 _) (PySem.F.newCall_enumerate_1 _) (λobj=>PySem.F.args_object_init_2 obj _) PySem.F.entry_enumerate_new (yg k l items n M sl) ⟨hl,?_⟩;have n1:(s.heap.push (Mc k l)).objs.size=s.heap.objs.size+1:=Heap.size_push ..;have O:((s.heap.push (Mc k l)).push { cls:=.type "enumerate",data:=.fields #[.none,.bool false,.ref s.heap.objs.size,rawInt 0,.none,.none] }).get? (s.heap.push (Mc k l)).objs.size=some _:=vY _ rfl;have g1:((s.heap.push (Mc k l)).push { cls:=.type "enumerate",data:=.fields #[.none,.bool false,.ref s.heap.objs.size,rawInt 0,.none,.none] }).get? s.heap.objs.size=some _:=vZ _ (vY _ (by cases k<;>rfl))
 rw[n1]at O;show _/\_;rw[n1];refine⟨⟨_,O,rfl⟩,q _ O ?_ λb o e=>vZ _ (vZ _ e)⟩;cases k<;>exact⟨_,g1,rfl,rfl⟩
theorem Mf (a:A.handled=none)(it l:Addr)(M:l≠it)(items:AV):Draws prog w A it [it,l] items.size (λi v=>items[i]? = some v) (λi h=>Bi k h it l i/\zA k h l items) where
 live:=λi h st=>let ⟨o,e,_⟩:=st.1.ob;⟨o,e⟩
 frame:=λi h h' st T=>⟨st.1.upon λo e=>T it (by simp) o e,st.2.upon λo e=>T l (by simp) o e⟩
 item:=λi s Q E hi st q=>CY st.1 st.2 (v:=items[i]) (by simp[hi]) λh' O U=>q _ h' s.toks (by simp[hi]) ⟨O,st.2.upon λo e=>U.extBut _ _ M e⟩ U
 done:=λs Q E st q=>yf a st.1 st.2 (by simp) q
theorem Mg (O:A.handled=none)(it l:Addr)(items:AV)(n:Nat)(hn:items[n]? = none):Draws prog w A it [it,l] n (λ_ _=>True) (λi h=>(Bi k h it l i/\zA k h l items)/\i=n) where
 live:=λi h st=>let ⟨o,e,_⟩:=st.1.1.ob;⟨o,e⟩
 frame:=λi h h' st M=>⟨⟨st.1.1.upon λo e=>M it (by simp) o e,st.1.2.upon λo e=>M l (by simp) o e⟩,st.2⟩
 item:=λi s Q E hi st q=>absurd st.2 (vS hi)
 done:=λs Q E st q=>yf O st.1.1 st.1.2 hn q
end
noncomputable def RZ (K:Frag)(k:Bool)(a:Addr):It :=
  ⟨λi H=>∃xs x,zZ k K H a xs/\xs[i]? = some x,
   λi H v H'=>∃T x,v=.ref T/\H T=none/\H'=upd H T (.tup [.int i,x])/\∀xs,zZ k K H a xs->xs[i]? = some x,
   λi H=>∃xs,zZ k K H a xs/\xs.length<=i⟩
theorem Db {P:Program}{w:World}{K:Frag}{es:QD}{r:Nat}{pt:Pos}{k:Bool}{a e it:Addr}(T:e≠it)(t:a≠e)(y:a≠it):
  Turn P w K (.Tuple es r pt) (RZ K k a) [e,it] e (λi h=>(∃M,IsEnum h e it i M)/\Bi k h it a i) where
 mem:=by simp
 obj:=λi h st b hb=>by
  obtain⟨⟨M,he⟩,O⟩:=st;simp at hb;rcases hb with rfl|rfl
  ·exact⟨_,he,λv z=>by cases z⟩
  ·exact O.ob
 keep:=λi h h' st c=>by
  obtain⟨⟨M,he⟩,O⟩:=st;exact⟨⟨M,c e (by simp) _ he⟩,O.upon λo q=>c it (by simp) o q⟩
 item:=by
  intro X f hw g hc i ae s σ H E I hf st j;subst f hw g;obtain⟨⟨M,he⟩,O⟩:=st;obtain⟨xs,x,d,hx⟩:=j;obtain⟨its,l,m,B⟩:=d.vals I;obtain⟨u,hu,ru⟩:=l.get hx;have fresh:H s.heap.objs.size=none:=I.hok.fresh (vT _);have C:i<its.toArray.size:=by rw[vH];exact(vV hu).1
  have n:e≠s.heap.objs.size:=vS (vX he);have D:it≠s.heap.objs.size:=by obtain⟨o,q,_⟩:=O.ob;exact vS (vX q)
  refine wpAny_pyNext_enum_itemD (Mf (A:=X.A.in1) (I.ok.hd hc) it a y its.toArray) he ⟨O,m⟩ C T (by simp[T,t.symm]) λv h' tk hv F G J hsz hk=>?_;have L:v=u:=by
   have p:its[i]? = some v:=by simpa using hv
   rw[hu]at p;exact(vK p).symm
  subst L;refine⟨_,rfl,wpAny_letOwnedTupleGo_enum (s:={ s with heap:=h',toks:=tk+1 }) F λh2 N s2=>?_⟩;have U:Heap.SameBut e h' h2:=s2;have c:∀b o,b∉[e,it]->s.heap.get? b=some o->h2.get? b=some o:=λb o hb q=>U.extBut _ _ (λz=>hb (by simp[z])) (hk b o (λz=>hb (by simp[z])) (λz=>hb (by simp[z])) q);have new:c7 X.prog X.w (upd H s.heap.objs.size (.tup [.int i,x])) h2 s.heap.objs.size (.tup [.int i,x]):=⟨by show 2<=sizeLine;decide,[.int i tk,v],.cons ⟨tk,rfl⟩ (.cons ru .nil),⟨_,U.extBut _ _ n.symm J,rfl,_,rfl⟩⟩;refine⟨.ref s.heap.objs.size,upd H s.heap.objs.size (.tup [.int i,x]),ER (s:=s) (t':=tk+1) I hf c (vT _) new,rfl,⟨_,x,rfl,fresh,rfl,λzs hq=>by rw[zZ.inj I hq d];exact hx⟩,?_,λb hb=>?_⟩
  ·exact⟨⟨_,by have:=N;rw[show((i:Int)+1)=((i+1:Nat):Int) by lia]at this;exact this⟩,G.1.upon λo q=>U.extBut _ _ T.symm q⟩
  ·have Q:b≠s.heap.objs.size:=by
    simp at hb;rcases hb with rfl|rfl
    ·exact n
    ·exact D
   rw[aD Q];exact(hf b hb).1
 done:=by
  intro X f hw g hc i ae s σ H E I hf st j;subst f hw g;obtain⟨⟨M,he⟩,O⟩:=st;obtain⟨xs,d,hl⟩:=j;obtain⟨its,l,m,B⟩:=d.vals I;have n1:=l.length;refine wpAny_pyNext_enum_endD (Mg (A:=X.A.in1) (I.ok.hd hc) it a its.toArray i (by simp;lia)) he ⟨⟨O,m⟩,rfl⟩ λh' hk=>⟨rfl,?_⟩;exact m4 (t':=s.toks) I hf λb o hb q=>hk b o (λz=>hb (by simp[z])) q
 self:=λ_ _ _ _ _ st h=>let ⟨⟨_,he⟩,_⟩:=st;wpAny_pyIter_enum he h
section
variable {X:Cx}{a b e:Expr}{pos:Pos}{p:Pos}
theorem yh:bootBuiltins "enumerate" = some (.type "enumerate"):=by decide +kernel
noncomputable def tS (ds:LD):LD:=ds.mapIdx λi d=>.tup [.int i,d]
@[simp] def EU (fa:FE):FA:=λρ=>(fa ρ).bind λx=>(jq x.1).map tS
theorem Ir {K:Frag}{N:Hp}{k:Bool}{l:Addr}{vs:LV}{ds:LD}(h1:zZ k K N l vs)(O:IsL K N vs ds):lL K (RZ K k l) N (tS ds):=by
 intro i H' M;have n1:=O.length;refine⟨λd ed=>?_,λhl=>⟨vs,h1.same M,?_⟩⟩
 ·unfold tS at ed;rw[List.getElem?_mapIdx]at ed;obtain⟨x,g,rfl⟩:=oY ed;obtain⟨v,U,iv⟩:=O.get g;refine⟨⟨vs,v,h1.same M,U⟩,λr H2 hy=>?_⟩;obtain⟨T,j,rfl,h,rfl,f1⟩:=hy;have c:=f1 vs (h1.same M);rw[U]at c;cases c;have f:=Ext.laid (o:=.tup [.int i,v]) M h;exact⟨_,f,.tup (ji.of aA) (.cons (.int _) (.cons (iv.mono f.bn) .nil))⟩
 ·unfold tS at hl;rw[List.length_mapIdx]at hl;lia
theorem Iu {es:QD}{f:Nat}{pt:Pos}{fa:FE}(hm:X.mg "enumerate" = none)(ha:JE X a fa)(g:Gl X "enumerate":=by rfl)(hs:starEach [a] X.env=[(false,eval a X.env)]:=by rfl):
  JI X (.Tuple es f pt) (.Call (.Name "enumerate" p) [a] [] pos) (EU fa):=by
 intro ae s σ H R I q;refine Call_ (lK I g hm yh (PyProof.Rows.callWith_type1 (cA (ah ha am hs pos ae s σ H (λvs M=>∃(k:Bool)(l:Addr)(us:LV),vs=[.ref l]/\zZ k X.K M l us/\R (RZ X.K k l) M) I ?_) λus s1 ⟨vs,M,I1,h,i⟩=>?_) hs rfl))
 ·obtain⟨B,ρ,ds,j,r,O,q⟩:=q;obtain⟨m,ex,O⟩:=oX O;obtain⟨xs,U,O⟩:=oY O;subst O;refine⟨B,ρ,[m.1],j,r,by simp[af,aj,ex],λvs M N1 c n=>?_⟩;cases n with
  |cons o t=>
   cases t
   obtain⟨k1,u,us,rfl,s1,v⟩:=OO o U;exact⟨k1,u,us,rfl,s1.same c.nh,q _ M N1 c (Ir s1 v)⟩
 ·obtain⟨k,l,z,rfl,h1,q⟩:=i;obtain⟨A,rfl,w⟩:=h.one;cases w
  obtain⟨its,C,d,D⟩:=h1.vals I1;have QI:=d.lt;refine ET d λh' c1 x y=>?_;refine wpAny_pyIter_enum c1 ⟨s1.heap.objs.size+1,[s1.heap.objs.size+1,s1.heap.objs.size],_,_,M,rfl,I1.kept (t':=s1.toks) y,
   Db (Nat.succ_ne_self _) (vS (lt_succ_of_lt QI)) (vS QI),⟨⟨_,c1⟩,x⟩,λb hb=>?_,q⟩
  have T:s1.heap.objs.size<=b:=by
   simp at hb;rcases hb with rfl|rfl
   ·exact le_succ _
   ·exact vT _
  exact I1.fpOk T (I1.hok.fresh T)
end
end DL
namespace DL
open PySem PySem.Spec PyProof.Rows
theorem Dc (t:SetTable)(es:Array (Int×Value))(n:Nat):(relayAll t es n).2.1.led=t.led:=by
 unfold relayAll;split
 ·rename_i t' M h;unfold SetTable.relaid SetTable.laid at h;obtain⟨ow,_,h⟩:=oX h;cases h
  dsimp only;split<;>rfl
 ·rfl
theorem yi (t:SetTable)(es:Array (Int×Value))(n:Nat)(hp:t.plain=false):(relayAll t es n).2.1.plain=false:=by
 unfold relayAll;split
 ·rename_i t' M h;unfold SetTable.relaid SetTable.laid at h;obtain⟨ow,_,h⟩:=oX h;cases h
  dsimp only;split
  ·exact hp
  ·rfl
 ·rfl
theorem Iv (t:SetTable)(es:Array (Int×Value))(h:Int)(x:Value):(layNew t es h x).2.1.led=t.led:=by
 unfold layNew;split
 ·dsimp only[SetTable.put,SetTable.orStandIn];repeat' (first|rfl|split)
 ·rfl
structure TabT (w:World)(es:Array (Int×Value))(t:SetTable):Prop where
 fits:t.fits es.size=true
 led:t.led = !w.params.followText "set-order"
 plain:es.size≠0->t.plain=false
def iY (prog:Program)(w:World)(h:Heap)(a:Addr)(M:LS):Prop :=
 ∃o es O t,h.get? a=some o/\o.ExactSet/\o.data=.set es O t/\ElemsOf (PySem.strKind prog w) es.toList/\(es.toList.map (λe=>strOf e.2)).Perm M/\M.Nodup/\M.length<scanBound/\TabT w es t
noncomputable def jX (M:LS)(x:Str):LS:=if x∈M then M else M++[x]
theorem EV (M:LS)(x:Str):(jX M x).length<=M.length+1:=by unfold jX;split<;>simp
theorem yj (h:Value.isStrOf k v=true):strOf v=k:=by obtain⟨t,rfl⟩:=Value.isStrOf_shape h;rfl
section
variable {prog:Program}{w:World}{A:Around}{E:QV}{s:Shared}
theorem tT {es:Array (Int×Value)}{T:LS}(O:ElemsOf (PySem.strKind prog w) es.toList)(hp:(es.toList.map (λe=>strOf e.2)).Perm T)(k:Str):k∈T ↔ ∃e∈es.toList,(PySem.strKind prog w).is k e.2=true:=by
 rw[<-hp.mem_iff,mem_map];constructor
 ·rintro⟨e,he,rfl⟩;obtain⟨⟨k',hk,_⟩,_⟩:=O e he;have M:Value.isStrOf k' e.2=true:=hk;refine⟨e,he,?_⟩;show Value.isStrOf (strOf e.2) e.2=true;rw[yj M];exact M
 ·rintro⟨e,he,hk⟩;exact⟨e,he,yj hk⟩
theorem tU {h:Heap}{a:Addr}{o:Obj}{es:Array (Int×Value)}{O:Nat}{t:SetTable}(T:h.get? a=some o)(hd:o.data=.set es O t)(M:Array (Int×Value))(t':SetTable):
  (h.update a (Obj.putSet M t')).get? a=some { o with data:=.set M (O+1) t' }:=by
 have:=Heap.get?_update_self (Obj.putSet M t') T (by rw[putSet_of M t' hd];rfl);rw[putSet_of M t' hd]at this;exact this
theorem yk {g:Bool->Sem Unit}(z:∀(b:Bool)(c:Shared)(m:Unit->Shared->Prop),m () c->wpAny (model prog w) A (g b) m E c)
  {a:Addr}{o:Obj}{es:Array (Int×Value)}{B:Nat}{t:SetTable}(n:s.heap.get? a=some o) (p:o.ExactSet) (hd:o.data=.set es B t)
  {M:Array (Int×Value)}{O:SetTable}{d:LS}(q:ElemsOf (PySem.strKind prog w) M.toList) (f:(M.toList.map (λe=>strOf e.2)).Perm d) (nd:d.Nodup)
  (hb1:d.length<scanBound) (C:O.fits M.size=true) (r:O.led = !w.params.followText "set-order") (u:O.plain=false) {T:Bool}{R:Option Bool->Shared->Prop}
  (h:∀h',Heap.SameBut a s.heap h'->iY prog w h' a d->R (some true) { s with heap:=h' }):
  wpAny (model prog w) A (do
    storeSet a M O
    if(!T && O.tooFull)=true then do
      g (relayAll O M (SetTable.grown M.size)).2.2
      storeSet a (relayAll O M (SetTable.grown M.size)).1 (relayAll O M (SetTable.grown M.size)).2.1
      pure (some true)
     else pure (some true)) R E s:=by
 have v:M.size=d.length:=by rw[<-f.length_eq,vI,vG]
 refine wX (wpAny_storeSet_of n hd ?_ (fits_of_scanBound (by rw[v];exact hb1)));have i:=tU n hd M O;have x:=vW s.heap a (Obj.putSet M O);split
 ·have hp:=relayAll_perm O M (SetTable.grown M.size);have j:=relayAll_fits O M (SetTable.grown M.size);have k:=Dc O M (SetTable.grown M.size);have l:=yi O M (SetTable.grown M.size) u;generalize D:relayAll O M (SetTable.grown M.size)=Rl at hp j k l |-;obtain⟨U,y,H⟩:=Rl;dsimp only at hp j k l |-;have F:ElemsOf (PySem.strKind prog w) U.toList:=q.perm hp;have hsz:U.size=M.size:=by rw[<-vG,hp.length_eq,vG]
  refine wX (z _ _ _ ?_);refine wX (wpAny_storeSet_of i rfl ?_ (fits_of_scanBound (by rw[hsz,v];exact hb1)));have G:=tU i rfl U y;exact wY (h _ (x.trans (vW _ a _)) ⟨_,U,_,y,G,p,rfl,F,(hp.map _).trans f,nd,hb1,j,k.trans r,λ_=>l⟩)
 ·exact wY (h _ x ⟨_,M,_,O,i,p,rfl,q,f,nd,hb1,C,r,λ_=>u⟩)
theorem Ac {a:Addr}{c:LS}{k:Str}{tk:Tok}{Q:Bool->Shared->Prop}(n:iY prog w s.heap a c)(F:c.length+1<scanBound)
  (h:∀b h',Heap.SameBut a s.heap h'->iY prog w h' a (jX c k)->Q b { s with heap:=h' }):
  wpAny (model prog w) A (setAddHashed a (.str k tk) ((PySem.strKind prog w).hash k)) Q E s:=by
 have hS0:=n;obtain⟨o,es,K,t,l,p,hd,f,M,nd,hb,hf,q,N⟩:=n;have r:(PySem.strKind prog w).is k (.str k tk)=true:=strKind_is prog w k tk;have sz:es.size=c.length:=by rw[<-M.length_eq,vI,vG]
 unfold setAddHashed setAddHashedIn;refine wpAny_holding (wX (wpAny_setState_of l hd hf ?_));dsimp only;rw[byScan_of (x:=.str k tk) rfl (by rw[sz];exact hb) f];simp only[↓reduceIte];unfold setAddByScan;refine wX ?_;refine wX (wpAny_rule ?_);refine wX (wpAny_setScan_of r l hd hf f ?_);cases hr:List.findIdx? (λe=>(PySem.strKind prog w).is k e.2) es.toList with
 |some j=>
  dsimp only;obtain⟨hj,G,_⟩:=List.findIdx?_eq_some_iff_getElem.mp hr;have hm:k∈c:=(tT f M k).mpr ⟨es.toList[j],getElem_mem hj,G⟩;refine wY (wY ?_);have e:jX c k=c:=by unfold jX;rw[if_pos hm]
  exact h false s.heap (Heap.SameBut.refl a s.heap) (by rw[e];exact hS0)
 |none=>
  dsimp only;have hm:k∉c:=λz=>by
   obtain⟨e,he,hp⟩:=(tT f M k).mp z;have:=List.findIdx?_eq_none_iff.mp hr e he;rw[hp]at this;exact Bool.noConfusion this
  have H:jX c k=c++[k]:=by unfold jX;rw[if_neg hm]
  have I:∀(b:Bool){U:Shared}{g:Unit->Shared->Prop},g () U->wpAny (model prog w) A (match b with|true=>rule "set.scan.the-table-gave-way" | false=>pure ()) g E U :=
   λb U g hq=>by cases b<;>first|exact wY hq|exact wpAny_rule hq
  have O:=layNew_perm t es ((PySem.strKind prog w).hash k) (.str k tk);have T:=layNew_fits t es ((PySem.strKind prog w).hash k) (.str k tk);have m:=Iv t es ((PySem.strKind prog w).hash k) (.str k tk);generalize P:layNew t es ((PySem.strKind prog w).hash k) (.str k tk)=L at O T m |-;obtain⟨u,R,S,V⟩:=L;dsimp only at O T m |-;rw[toList_push]at O;have v:ElemsOf (PySem.strKind prog w) u.toList:=(f.push r rfl).perm O;have B:(u.toList.map (λe=>strOf e.2)).Perm (c++[k]):=(O.map _).trans (by rw[uW];exact M.append_right _);have C:(c++[k]).Nodup:=by
   rw[nodup_append];refine⟨nd,by simp,λx hx y hy=>?_⟩;rw[mem_singleton]at hy;subst hy;exact λz=>hm (z ▸ hx)
  have hb1:(c++[k]).length<scanBound:=by rw[uZ];exact F
  refine wX (I _ ?_);have D:∀h',Heap.SameBut a s.heap h'->iY prog w h' a (c++[k])->Q true { s with heap:=h' }:=λh' d i=>h true h' d (by rw[H];exact i);split
  ·refine wX ?_;rw[hashByValue_scannable 8 (x:=.str k tk) rfl];refine wY ?_;refine yk ?_ l p hd v B C hb1 ?_ ?_ ?_ ?_
   ·intro b U g hq;cases b<;>first|exact wY hq|exact wpAny_rule hq
   ·exact SetTable.fits_plain_off T
   ·exact m.trans q
   ·rfl
   ·intro h' d i;dsimp only;exact wY (D h' d i)
  ·rename_i J;refine wX (wY ?_);simp only[↓reduceIte];refine yk ?_ l p hd v B C hb1 T (m.trans q) (by simpa using J) ?_
   ·intro b U g hq;cases b<;>first|exact wY hq|exact wpAny_rule hq
   ·intro h' d i;dsimp only;exact wY (D h' d i)
end
noncomputable def iZ (M:LS):LS:=M.foldl jX []
theorem Ad (h:M.Nodup)(x:Str):(jX M x).Nodup:=by
 unfold jX;split
 ·exact h
 ·rename_i hm;rw[nodup_append];refine⟨h,by simp,λy hy z hz=>?_⟩;rw[mem_singleton]at hz;subst hz;exact λe=>hm (e ▸ hy)
theorem ym:y∈jX M x↔y∈M\/y=x:=by
 unfold jX;split
 ·rename_i hm;exact⟨.inl,λz=>z.elim id λe=>e ▸ hm⟩
 ·simp
theorem wv (O:LS):∀M:LS,(O.foldl jX M).length<=M.length+O.length:=by
 induction O with
 |nil=>intro M;simp
 |cons x r T=>intro M;rw[foldl_cons];have:=T (jX M x);have:=EV M x;simp only[vE];lia
theorem qk (M:LS):(iZ M).length<=M.length:=by have:=wv M [];simpa [iZ]using this
theorem De (M:LS)(x:Str):iZ (M++[x])=jX (iZ M) x:=by unfold iZ;rw[foldl_append];rfl
theorem StrsAre.at:∀ {vs:LU}{M:LS},StrsAre vs M->∀(i:Nat)(v:Value),vs[i]? = some v->∃x t,v=.str x t/\M[i]? = some x
 |_,_,.nil,i,v,h=>by simp at h
 |_,_,.cons x t hr,0,v,h=>by simp at h;exact⟨x,t,h.symm,rfl⟩
 |_,_,.cons x t hr,i+1,v,h=>by
  simp only[List.getElem?_cons_succ]at h;exact StrsAre.at hr i v h
theorem iY.at (x:iY prog w h a T)(k:∀o,h.get? a=some o->h'.get? a=some o):iY prog w h' a T:=by
 obtain⟨o,es,M,t,O,r⟩:=x;exact⟨o,es,M,t,k o O,r⟩
section
variable {prog:Program}{w:World}{A:Around}{R:Result->Shared->Prop}{I:Addr}{fp wr:List Addr}{G:Array GenState->Array GenState->Prop}{n:Nat}{P:Nat->Value->Prop}{St:Nat->Shared->Prop}
theorem ww (W:WalksS prog w A.in1 I fp wr G n P St)(S:Addr)(U:S∉fp)(M:LS)(hn:M.length=n)
  (m:∀i v,P i v->∃x t,v=.str x t/\M[i]? = some x) (hb:n+1<scanBound):
  ∀(k i:Nat)(s:Shared),n - i=k->i<=n->St i s->iY prog w s.heap S (iZ (M.take i)) ->
   (∀s',Moved (S::wr) G s s'->iY prog w s'.heap S (iZ M)->R (.ok (.ret .none)) s') ->
   codeAny (model prog w) A (.builtin "set.update.loop" ⟨[.ref S,.ref I],[]⟩) R s:=by
 have j:S∉wr:=λh=>U (W.sub _ h);have O:∀b∈wr,b∈S::wr:=λb hb=>mZ _ hb;intro k;induction k with
 |zero=>
  intro i s hk hi T g hR;have p:i=n:=by lia
  subst p;refine codeAny_builtin PyProof.Rows.F.entry_set_update_loop ?_;rw[Around.under_plainId PyProof.Rows.F.plain_set_update_loop _];show wpAny _ A.in1 (pyNext (.ref I)>>=_) _ _ s;refine wX (W.done s _ _ T λs' hm=>?_);show wpAny _ A.in1 (ret Value.none) _ _ s';refine wY (hR s' (hm.mono O) ?_);rw[List.take_of_length_le (by lia)]at g;exact g.at λo e=>hm.heap S _ j e
 |succ k q=>
  intro i s hk hi T g hR;have l:i<n:=by lia
  refine codeAny_builtin PyProof.Rows.F.entry_set_update_loop ?_;rw[Around.under_plainId PyProof.Rows.F.plain_set_update_loop _];show wpAny _ A.in1 (pyNext (.ref I)>>=_) _ _ s;refine wX (W.item i s _ _ l T λv s' r a hm=>?_);obtain⟨x,t,rfl,hx⟩:=m i v r;have u:iY prog w s'.heap S (iZ (M.take i)):=g.at λo e=>hm.heap S _ j e;show wpAny _ A.in1 (holding [Value.str x t] (setAdd S (.str x t))>>=_) _ _ s';refine wX (wpAny_holding ?_);unfold setAdd;refine wpAny_holding ?_;refine wX ((PySem.strKind prog w).pyHash (k:=x) (strKind_is prog w x t) ?_);have hl:(iZ (M.take i)).length+1<scanBound:=by have:=qk (M.take i);rw[length_take]at this;lia
  refine Ac (s:={ s' with toks:=s'.toks+1 }) u hl λb h' c y=>?_;have z:iY prog w h' S (iZ (M.take (i+1))):=by
   rw[take_add_one,hx,toList_some,De];exact y
  refine wY ⟨plainId_quiet PyProof.Rows.F.plain_set_update_loop _,q (i+1) _ (by lia) l (W.frame _ s' _ _ a (le_succ _) λb hb o e=>?_) z λB d f=>?_⟩
  ·rw[c.2 b (λh:b=S=>U (by rw[<-h];exact hb))];exact e
  ·refine hR B (Moved.trans W.gtrans ((hm.mono O).then_heap (le_succ _) λb o hb e=>?_) d) f;rw[c.2 b (λh:b=S=>hb (by rw[h];exact mX))];exact e
end
section
variable {prog:Program}{w:World}{A:Around}{E:QV}{s:Shared}
noncomputable abbrev fu (w:World):Obj:={ cls:=.type "set",dict:=none,data:=.set #[] 0 (.fresh 0 0 (!w.params.followText "set-order")) }
theorem yn (a:Value) 
  (h:Q₁ (.ref s.heap.objs.size) { s with heap:=s.heap.push (fu w) }):
  codeAny (model prog w) A (.call (.builtin "set.__new__") ⟨[.type "set",a],[]⟩) (wants Q₁ E) s:=by
 refine codeAny_of_tree ?_;show wpAny _ A.in1 (do checkBuiltinCall "set.__new__" ⟨[.type "set",a],[]⟩;again (.builtin "set.__new__" ⟨[.type "set",a],[]⟩)) _ _ s;refine wX (wpAny_of_eq (PySem.F.newCall_set_1 a) (wY ⟨plainId_quiet plain_set_new _,codeAny_builtin PySem.F.entry_set_new ?_⟩));rw[Around.under_plainId plain_set_new _];unfold Builtin.«set.__new__» Builtin.Frozenset.newClass;have M:=sub_set_self;obtain⟨hp,g,d,tk,os⟩:=s;dsimp only;wp_walk;refine wpAny_askSetting (wY ?_);dsimp only;simp only[newObj];refine wX (wpAny_alloc (wY ?_));exact wY h
set_option maxHeartbeats 3200000 in
theorem ql 
  (hh:A.handled=none) (hl:s.heap.IsList l items) (hi:StrsAre items.toList ss) (hb:items.size+1<scanBound)
  (h:∀(h':Heap)(tk:Nat),iY prog w h' s.heap.objs.size (iZ ss) ->
   (∀b o,b<s.heap.objs.size->s.heap.get? b=some o->h'.get? b=some o)->Q (.ref s.heap.objs.size) { s with heap:=h',toks:=tk }):
  wpAny (model prog w) A (call (.type "set") [.ref l]) Q E s:=by
 obtain⟨c,tl,Y⟩:=called_set.mro;have Z:=called_set.made;have X5:=called_set.sub;refine wpAny_call (codeAny_of_tree ?_);show wpAny _ _ (callAny (.type "set") _) _ _ _;refine wY ⟨Code.quiet_builtin _ (by decide +kernel),codeAny_builtin PySem.F.entry_type_call ?_⟩;rw[Around.under_plain (weight_type_call_type "set" [.ref l] []) rfl];have h1:=called_set.notType;have h2:=called_set.canCreate;have Zw:=PySem.F.typeCall_set_1 (.ref l);have y:ss.length=items.size:=by have:=hi.strs;rw[<-this,vI,vG]
 repeat (any_goals (first|assumption|wp_step))
 refine codeAny_mono (yn (.ref l) (E:=E) (Q₁:=λobj T=>obj=.ref s.heap.objs.size/\T={ s with heap:=s.heap.push (fu w) }) ⟨rfl,rfl⟩) λr T hr=>?_;cases r with
 |error e=>exact hr
 |ok fl=>
  cases fl with
  |ret obj=>
   obtain⟨rfl,rfl⟩:=hr;have j:(s.heap.push (fu w)).get? s.heap.objs.size=some (fu w):=vY _ rfl;have B:Shared.TypeIs { s with heap:=s.heap.push (fu w) } (.ref s.heap.objs.size) "set":=⟨_,j,rfl⟩;have Zx:=called_set.init.lookup;have Zy:=called_set.init.bind (.ref s.heap.objs.size);repeat (any_goals (first|assumption|wp_step))
   refine codeAny_mono (codeAny_call_builtin (R:=wants (λr U=>r=.none/\∃h' tk,U={ s with heap:=h',toks:=tk } /\
     iY prog w h' s.heap.objs.size (iZ ss) /\
     (∀b o,b<s.heap.objs.size->s.heap.get? b=some o->h'.get? b=some o)) E) called_set.init.plain PySem.F.entry_set_init (check_set_init_1 B ?_)) λd U M=>?_
   ·obtain⟨C,k,m,n,p⟩:=hl;obtain⟨X6,D,Vf,O⟩:=C;simp only at m p;subst m;subst p;have G:(s.heap.push (fu w)).get? l=some { cls:=.type "list",dict:=D,data:=.seq items n,slots:=O }:=vZ _ k;have X7:=PySem.F.sub_list_set;have X8:=PySem.F.sub_list_frozenset;have Ec:(Value.type "list" == Value.type "dict")=false:=by decide
    have q:(s.heap.push (fu w)).IsList l items:=⟨_,G,rfl,n,rfl⟩;unfold Builtin.«set.__init__» noKeywords Builtin.Frozenset.updateFrom;generalize f:pyIter=PI;wp_walk;subst f;refine wpAny_pyIter_list q ?_;refine wX (wpAny_runValue ?_);have u:l<s.heap.objs.size:=vX k;have H:A.in1.in1.in1.handled=none:=by simp[hh]
    have I:l≠(s.heap.push (fu w)).objs.size:=by
     rw[Heap.size_push];exact vS (lt_succ_of_lt u)
    have J:s.heap.objs.size∉[(s.heap.push (fu w)).objs.size,l]:=by
     rw[Heap.size_push];simp only[mem_cons,mem_singleton,not_mem_nil,or_false,not_or];exact⟨vS (lt_succ_self _),ne_of_gt u⟩
    have K:∀(i:Nat)(v:Value),items[i]? = some v->∃x t,v=.str x t/\ss[i]? = some x:=λi v hv=>
     StrsAre.at hi i v (by rw[getElem?_toList];exact hv)
    refine ww ((Walks.list H _ l I items).toS) s.heap.objs.size
     J ss y K hb (items.size - 0) 0 _ (by lia) (uN _)
     ⟨⟨_,vY _ rfl,rfl,rfl⟩,(q.push _)⟩ ?hS0 ?hR
    case hS0=>
     have L:((s.heap.push (fu w)).push { cls:=.type "list_iterator",data:=.fields #[.ref l,.int 0 0] }).get? s.heap.objs.size
       = some (fu w):=vZ _ j
     exact⟨_,#[],0,_,L,⟨rfl,rfl,rfl⟩,rfl,λe he=>by simp at he,List.Perm.refl _,nodup_nil,(by show(0:Nat)<scanBound;decide),rfl,rfl,λz=>absurd rfl z⟩
    case hR=>
     intro s' hm g
     obtain⟨h',g',d',N,P⟩:=s'
     have S:g'=s.gens:=hm.gens
     have ed:d'=s.drawn:=hm.drawn
     have V:P=s.os:=hm.os
     subst S;subst ed;subst V
     show wpAny _ _ _ _ _ _
     refine wY ?_
     show wpAny _ _ (ret Value.none) _ _ _
     refine wY ⟨rfl,h',N,rfl,g,λb o hb e=>?_⟩
     have hb1:b≠s.heap.objs.size:=vS hb
     have W:b≠(s.heap.push (fu w)).objs.size:=by
      rw[Heap.size_push];exact vS (lt_succ_of_lt hb)
     exact hm.heap b o (by simp only[mem_cons,mem_singleton,not_mem_nil,or_false,not_or];exact⟨hb1,W⟩) (vZ _ (vZ _ e))
   ·cases d with
    |error e=>exact M
    |ok a=>
     cases a with
     |ret r=>
      obtain⟨rfl,h',tk,rfl,g,X⟩:=M;repeat (any_goals (first|assumption|wp_step))
      exact h _ _ g X
     |_=>exact M.elim
  |_=>exact hr.elim
end
open Sem (wp)
section
variable {M:Model}{A:Around}{E:QV}{s:Shared}
theorem Iw (hn:n≠0)(h:∀k d,k<n->Q k { s with drawn:=d }):wpAny M A (choose U n) Q E s:=by
 intro O p T;unfold choose;rw[Sem.wp_choose];refine⟨hn,?_⟩;have:=h _ (s.drawn.bump U) (Nat.mod_lt (M.w.draws U (s.drawn.get U)) (Nat.pos_of_ne_zero hn));simpa using this
end
theorem m5 {α:Type}:∀(l:List α)(i:Nat),i<l.length->(l.eraseIdx i).length=l.length - 1:=λl i h=>by rw[List.length_eraseIdx,if_pos h]
theorem lP {α:Type}:∀(l:List α)(i:Nat)(x:α),l[i]? = some x->(x::l.eraseIdx i).Perm l
 |[],i,x,h=>by simp at h
 |a::l,0,x,h=>by simp at h;subst h;exact List.Perm.refl _
 |a::l,i+1,x,h=>by
  rw[List.eraseIdx_cons_succ];simp only[List.getElem?_cons_succ]at h;exact(List.Perm.swap a x _).trans ((lP l i x h).cons a)
theorem Bj {α:Type}:∀(n:Nat)(xs:List α)(s:Shared)(Q:List α->Shared->Prop),xs.length=n->(∀ys d,ys.Perm xs->Q ys { s with drawn:=d })->wpAny M A (drawOrder n xs) Q E s
 |0,xs,s,Q,hl,h=>by
  have:xs=[]:=List.eq_nil_of_length_eq_zero hl;subst this;exact wY (h [] s.drawn (List.Perm.refl _))
 |n+1,[],s,Q,hl,h=>by simp at hl
 |n+1,x::r,s,Q,hl,h=>by
  show wpAny M A (choose .order (x::r).length>>=λi=>match (x::r)[i]? with
   |some O=>(do return O::(<-drawOrder n ((x::r).eraseIdx i)))
   |none=>unsupported "internal:drawOrder") Q E s
  refine wX (Iw (by simp) λk d hk=>?_);obtain⟨y,hy⟩:∃y,(x::r)[k]? = some y:=⟨_,vU hk⟩;rw[hy];refine wX (Bj n _ _ _ (by rw[m5 _ _ hk,hl];rfl) λys d' hp=>wY (h _ _ ((hp.cons y).trans (lP _ _ _ hy))))
theorem Bk {α:Type}(next:Nat->Nat):∀(fuel k:Nat)(left:List α)(out:Array α),left.length=fuel->(pickOrder.go next fuel k left out).toList.Perm (out.toList++left)
 |0,k,left,out,hl=>by
  have:left=[]:=List.eq_nil_of_length_eq_zero hl;subst this;unfold pickOrder.go;simp
 |fuel+1,k,left,out,hl=>by
  unfold pickOrder.go;have hk:next k % left.length<left.length:=Nat.mod_lt _ (by lia);obtain⟨y,hy⟩:∃y,left[next k % left.length]? = some y:=⟨_,vU hk⟩;rw[hy];dsimp only;refine(Bk next fuel (k+1) _ _ (by rw[m5 _ _ hk];lia)).trans ?_;rw[toList_push,append_assoc];exact(lP _ _ _ hy).append_left _
theorem Df {α:Type}(next:Nat->Nat)(xs:Array α):(pickOrder next xs).toList.Perm xs.toList:=by
 have:=Bk next xs.size 0 xs.toList #[] (by simp);simpa [pickOrder]using this
theorem bH:Slot "set_iterator" "__next__" "set_iterator.__next__" :=
 .of (owner:="set_iterator") (n:="__next__") (by rw[typeLookup_type,builtinLookup_eq_fast];kernel_rfl) (by decide +kernel) (by decide +kernel) (by decide +kernel)
  (by first|exact .inl (by decide +kernel)|exact .inr (by decide +kernel)) (by rw[isSubtype_type];kernel_rfl)
theorem fP:entryFor table "set_iterator.__next__" = some Builtin.«set_iterator.__next__»:=entryFor_of_tree (by kernel_rfl)
theorem gu (a:Value):argsOk "set_iterator.__next__" ⟨[a],[]⟩:=by unfold argsOk;kernel_rfl
theorem lC:Slot "set_iterator" "__iter__" "set_iterator.__iter__" :=
 .of (owner:="set_iterator") (n:="__iter__") (by rw[typeLookup_type,builtinLookup_eq_fast];kernel_rfl) (by decide +kernel) (by decide +kernel) (by decide +kernel)
  (by first|exact .inl (by decide +kernel)|exact .inr (by decide +kernel)) (by rw[isSubtype_type];kernel_rfl)
theorem qm:entryFor table "set_iterator.__iter__" = some Builtin.«dict_keyiterator.__iter__» :=
 entryFor_alias (id':="dict_keyiterator.__iter__") (by kernel_rfl) rfl (by decide +kernel) (by kernel_rfl)
theorem sY (a:Value):argsOk "set_iterator.__iter__" ⟨[a],[]⟩:=by unfold argsOk;kernel_rfl
theorem pi:entryFor table "set.__iter__" = some Builtin.«frozenset.__iter__» :=
 entryFor_alias (id':="frozenset.__iter__") (by kernel_rfl) rfl (by decide +kernel) (by kernel_rfl)
noncomputable abbrev lQ (M:Value)(i:Nat)(S:Addr)(n O:Nat):Obj:={ cls:=.type "set_iterator",data:=.fields #[M,.int i 0,.ref S,.int n 0,.int O 0] }
section
variable {prog:Program}{w:World}{A:Around}{E:QV}{s:Shared}{it S:Addr}{i ep:Nat}{o:Obj}{es:Array (Int×Value)}{t:SetTable}
theorem dP (M:s.heap.get? it=some (lQ O i S n ep)):s.TypeIs (.ref it) "set_iterator":=⟨_,M,rfl⟩
theorem wx {k k':Nat}{x:Value}{Q:Option Value->Shared->Prop}(M:s.heap.get? it=some (lQ (.int k 0) i S es.size ep))
  (T:s.heap.get? S=some o) (hd:o.data=.set es ep t) (hf:t.fits es.size=true)
  (U:∀(a:Around)(b:QV)(O:Option (Value×Nat)->Shared->Prop),O (some (x,k')) s->wpAny (model prog w) a (setNext S k i ep) O b s)
  (c:∀h',h'.get? it=some (lQ (.int k' 0) (i+1) S es.size ep)->Heap.SameBut it s.heap h'->Q (some x) { s with heap:=h' }):
  wpAny (model prog w) A (pyNext (.ref it)) Q E s:=by
 unfold pyNext;refine wX (wpAny_attempt (wpAny_callSpecial?_slot (name:=Str.ofString "__next__") (dP M) bH
  (wpAny_call_entry bH (dP M) fP ?_ (gu _))))
 show wpAny _ _ (fieldsOf (.ref it)>>=_) _ _ s;refine wX (wpAny_fieldsOf M rfl ?_);show wpAny _ _ (setEntries S>>=_) _ _ s;refine wX (wpAny_setEntries_of T hd hf ?_);rw[if_neg (by simp)];show wpAny _ _ (setNext S _ _ _>>=_) _ _ s;simp only[toNat_natCast];refine wX (U _ _ _ ?_);dsimp only;refine wX (wpAny_setField_rec M (by simp) λh1 d b1=>?_);refine wX (wpAny_setField_rec d (by simp) λh2 e2 b2=>?_);exact wY ⟨x,rfl,wY (c h2 (by simpa [rawInt,lQ]using e2) (b1.trans b2))⟩
theorem wy {k:Nat}{Q:Option Value->Shared->Prop}(hh:A.handled=none)(M:s.heap.get? it=some (lQ (.int k 0) i S es.size ep))
  (U:s.heap.get? S=some o) (hd:o.data=.set es ep t) (hf:t.fits es.size=true)
  (c:∀(d:Around)(e:QV)(O:Option (Value×Nat)->Shared->Prop),O none s->wpAny (model prog w) d (setNext S k i ep) O e s)
  (f:∀h',Heap.ExtBut it s.heap h'->Q none { s with heap:=h' }):
  wpAny (model prog w) A (pyNext (.ref it)) Q E s:=by
 unfold pyNext;refine wX (wpAny_attempt (wpAny_callSpecial?_slot (name:=Str.ofString "__next__") (dP M) bH
  (wpAny_call_entry bH (dP M) fP ?_ (gu _))))
 show wpAny _ _ (fieldsOf (.ref it)>>=_) _ _ s;refine wX (wpAny_fieldsOf M rfl ?_);show wpAny _ _ (setEntries S>>=_) _ _ s;refine wX (wpAny_setEntries_of U hd hf ?_);rw[if_neg (by simp)];show wpAny _ _ (setNext S _ _ _>>=_) _ _ s;simp only[toNat_natCast];refine wX (c _ _ _ ?_);dsimp only;refine wX (wpAny_setField_rec M (by simp) λh1 g b1=>?_);refine wX ?_;simp only[newExc,newTuple];refine wX (wpAny_newObj_type ?_ (by size_fits));refine wX (m:=firstArgMember _ _) (wpAny_of_eq (a:=Value.none) (by first|rfl|(simp only[firstArgMember];rfl)) ?_);refine wpAny_newObj_type ?_ (by size_fits);simp only[raiseNew];refine wX (wpAny_handled ?_);rw[show A.in1.handled=none from hh];refine wX (wY (wpAny_throw ?_));refine wX (wpAny_isInstance (T:="StopIteration") (b:=true) ⟨_,vY _ rfl,rfl⟩ isSubtype_stop ?_);exact wY (f _ ((b1.extBut.push _).push _))
theorem sZ {T:Addr}{pl:LN}{p:Nat}{x:Int×Value}{nt:Nat}{Q:Option Value->Shared->Prop}(M:s.heap.get? it=some (lQ (.ref T) i S es.size ep))
  (a:s.heap.get? T=some (seqObj "tuple" (pl.map λ(p:Nat)=>Value.int p 0).toArray nt))
  (U:s.heap.get? S=some o) (hd:o.data=.set es ep t) (hf:t.fits es.size=true) (hp:pl[i]? = some p) (hx:es[p]? = some x)
  (b:∀h',h'.get? it=some (lQ (.ref T) (i+1) S es.size ep)->Heap.SameBut it s.heap h'->Q (some x.2) { s with heap:=h' }):
  wpAny (model prog w) A (pyNext (.ref it)) Q E s:=by
 unfold pyNext;refine wX (wpAny_attempt (wpAny_callSpecial?_slot (name:=Str.ofString "__next__") (dP M) bH
  (wpAny_call_entry bH (dP M) fP ?_ (gu _))))
 show wpAny _ _ (fieldsOf (.ref it)>>=_) _ _ s;refine wX (wpAny_fieldsOf M rfl ?_);show wpAny _ _ (setEntries S>>=_) _ _ s;refine wX (wpAny_setEntries_of U hd hf ?_);rw[if_neg (by simp)];show wpAny _ _ (seqItems? (.ref T)>>=_) _ _ s;refine wX (wpAny_seqItems a rfl ?_);have O:(pl.map λ(p:Nat)=>Value.int p 0).toArray[(i:Int).toNat]? = some (.int p 0):=by simp[hp]
 dsimp only;rw[O];dsimp only;have e2:wpAny (model prog w) A.in1 (setNextDrawn S (p:Int).toNat (ep:Int).toNat) (λy s'=>y=x.2/\s'=s) (λ_ _=>False) s:=by
  unfold setNextDrawn;refine wX (wpAny_setState_of U hd hf ?_);dsimp only;rw[if_neg (by simp)];simp only[toNat_natCast,hx];exact wY ⟨rfl,rfl⟩
 refine wX (wpAny_mono e2 (λy s' hy=>?_) λ_ _ z=>z.elim);obtain⟨rfl,rfl⟩:=hy;refine wX (wpAny_setField_rec M (by simp) λh1 O b1=>?_);exact wY ⟨_,rfl,wY (b h1 (by simpa [rawInt,lQ]using O) b1)⟩
theorem tj {T:Addr}{pl:LN}{nt:Nat}{Q:Option Value->Shared->Prop}(hh:A.handled=none)(M:s.heap.get? it=some (lQ (.ref T) i S es.size ep))
  (U:s.heap.get? T=some (seqObj "tuple" (pl.map λ(p:Nat)=>Value.int p 0).toArray nt))
  (c:s.heap.get? S=some o) (hd:o.data=.set es ep t) (hf:t.fits es.size=true) (hp:pl[i]? = none)
  (d:∀h',Heap.ExtBut it s.heap h'->Q none { s with heap:=h' }):
  wpAny (model prog w) A (pyNext (.ref it)) Q E s:=by
 unfold pyNext;refine wX (wpAny_attempt (wpAny_callSpecial?_slot (name:=Str.ofString "__next__") (dP M) bH
  (wpAny_call_entry bH (dP M) fP ?_ (gu _))))
 show wpAny _ _ (fieldsOf (.ref it)>>=_) _ _ s;refine wX (wpAny_fieldsOf M rfl ?_);show wpAny _ _ (setEntries S>>=_) _ _ s;refine wX (wpAny_setEntries_of c hd hf ?_);rw[if_neg (by simp)];show wpAny _ _ (seqItems? (.ref T)>>=_) _ _ s;refine wX (wpAny_seqItems U rfl ?_);have O:(pl.map λ(p:Nat)=>Value.int p 0).toArray[(i:Int).toNat]? = none:=by simpa using hp
 dsimp only;rw[O];dsimp only;refine wX (wpAny_setField_rec M (by simp) λh0 e f=>?_);refine wX (wpAny_setField_rec e (by simp) λh1 O b1=>?_);refine wX ?_;simp only[newExc,newTuple];refine wX (wpAny_newObj_type ?_ (by size_fits));refine wX (m:=firstArgMember _ _) (wpAny_of_eq (a:=Value.none) (by first|rfl|(simp only[firstArgMember];rfl)) ?_);refine wpAny_newObj_type ?_ (by size_fits);simp only[raiseNew];refine wX (wpAny_handled ?_);rw[show A.in1.handled=none from hh];refine wX (wY (wpAny_throw ?_));refine wX (wpAny_isInstance (T:="StopIteration") (b:=true) ⟨_,vY _ rfl,rfl⟩ isSubtype_stop ?_);exact wY (d _ (((f.trans b1).extBut.push _).push _))
theorem yo (M:s.heap.get? it=some (lQ O i S n ep))(h:Q (.ref it) s):wpAny (model prog w) A (pyIter (.ref it)) Q E s:=by
 refine wpAny_pyIter_slot (dP M) lC (wpAny_call_entry lC (dP M) qm ?_ (sY _));show wpAny _ _ (ret (.ref it)) _ _ s;exact wY ⟨_,rfl,"set_iterator",_,dP M,bH.lookup,h⟩
end
section
variable {prog:Program}{w:World}{A:Around}{E:QV}{s:Shared}{it S:Addr}{i k ep:Nat}{o:Obj}{es:Array (Int×Value)}{t:SetTable}
theorem tV (M:s.heap.get? S=some o)(hd:o.data=.set es ep t)(hf:t.fits es.size=true)(hb:w.params.followText "set-order" = true)
  (h:Q (((pickOrder (w.params.setOrder S ep) es)[i]?).map λe=>(e.2,k)) s):wpAny (model prog w) A (setNext S k i ep) Q E s:=by
 unfold setNext;refine wX (wpAny_setState_of M hd hf ?_);dsimp only;unfold setsByText;refine wX (wX (wpAny_askSetting (wY ?_)));show wpAny _ _ (if w.params.followText "set-order" = true then _ else _) _ _ _;rw[if_pos hb,if_neg (by simp)];unfold setWalk setsByText;refine wX (wX (wpAny_setState_of M hd hf ?_));dsimp only;refine wX (wX (wpAny_askSetting (wY ?_)));show wpAny _ _ (if w.params.followText "set-order" = true then _ else _) _ _ _;rw[if_pos hb];refine wX (wpAny_askSetting (wY ?_));exact wY h
theorem qo (M:s.heap.get? S=some o)(hd:o.data=.set es ep t)(hf:t.fits es.size=true)(hb:w.params.followText "set-order" = false)(hl:t.led=true)(hz:es.size<=1)
  (h:Q (match es[SetTable.below t.place k]?,t.place[SetTable.below t.place k]? with
   |some (_,x),some j=>some (x,j+1)
   |_,_=>none) s):wpAny (model prog w) A (setNext S k i ep) Q E s:=by
 unfold setNext;refine wX (wpAny_setState_of M hd hf ?_);dsimp only;unfold setsByText;refine wX (wX (wpAny_askSetting (wY ?_)));show wpAny _ _ (if w.params.followText "set-order" = true then _ else _) _ _ _;rw[if_neg (by rw[hb];simp)];show wpAny _ _ (if(!t.plain && decide (es.size > 1))=true then _ else _) _ _ _;rw[if_neg (by rw[DP (by lia)];simp)];show wpAny _ _ ((if(!t.led && !es.isEmpty)=true then unsupported "set:maker-not-led" else pure ())>>=_) _ _ _;rw[hl,if_neg (by simp)];refine wX (wY ?_);exact wY h
theorem tW (hh:A.handled=none)(hd:o.data=.set es ep t)(hf:t.fits es.size=true)(a:S≠it)(vs:LU)(hv:vs.length=es.size)(sl:Nat->Nat)
  (c:∀i x,vs[i]? = some x->∀(O:Around)(T:QV)(s:Shared)(M:Option (Value×Nat)->Shared->Prop),s.heap.get? S=some o->M (some (x,sl (i+1))) s->wpAny (model prog w) O (setNext S (sl i) i ep) M T s)
  (d:∀(O:Around)(T:QV)(s:Shared)(M:Option (Value×Nat)->Shared->Prop),s.heap.get? S=some o->M none s->wpAny (model prog w) O (setNext S (sl es.size) es.size ep) M T s):
  Walks prog w A it [it,S] [it] es.size (λi v=>vs[i]? = some v) (λi h=>h.get? it=some (lQ (.int (sl i) 0) i S es.size ep)/\h.get? S=some o) where
 sub:=λb hb=>by simp at hb;simp[hb]
 frame:=λ_ _ _ st hk=>⟨hk it (by simp) _ st.1,hk S (by simp) _ st.2⟩
 item:=λi s Q E hi st U=>by
  obtain⟨x,hx⟩:∃x,vs[i]? = some x:=⟨_,vU (by lia)⟩;refine wx st.1 st.2 hd hf (λO T M q=>c i x hx O T s M st.2 q) λh' h1 h2=>?_;exact U x h' s.toks hx ⟨h1,h2.extBut S _ a st.2⟩ λb u hb e=>h2.extBut b u (λz=>hb (by simp[z])) e
 done:=λs Q E st U=>wy hh st.1 st.2 hd hf (λO T M q=>d O T s M st.2 q) λh' h1=>U h' s.toks λb u hb e=>h1 b u (λz=>hb (by simp[z])) e
 self:=λ_ _ _ _ st U=>yo st.1 U
theorem Ae {T:Addr}{pl:LN}{nt:Nat}(hh:A.handled=none)(hd:o.data=.set es ep t)(hf:t.fits es.size=true)(U:S≠it)(a:T≠it)(hp:pl.Perm (List.range es.size)):
  Walks prog w A it [it,S,T] [it] es.size (λi v=>(pl.map λp=>(es.getD p (0,.none)).2)[i]? = some v)
   (λi h=>h.get? it=some (lQ (.ref T) i S es.size ep)/\h.get? S=some o/\h.get? T=some (seqObj "tuple" (pl.map λ(p:Nat)=>Value.int p 0).toArray nt)) where
 sub:=λb hb=>by simp at hb;simp[hb]
 frame:=λ_ _ _ st hk=>⟨hk it (by simp) _ st.1,hk S (by simp) _ st.2.1,hk T (by simp) _ st.2.2⟩
 item:=λi s Q E hi st M=>by
  have O:pl.length=es.size:=by rw[hp.length_eq,length_range]
  obtain⟨p,hx⟩:∃p,pl[i]? = some p:=⟨_,vU (by lia)⟩;have c:p<es.size:=mem_range.mp (hp.mem_iff.mp (vL hx));have he:es[p]? = some (es.getD p (0,.none)):=by rw[getD_eq_getD_getElem?,getElem?_eq_getElem c];rfl
  refine sZ st.1 st.2.2 st.2.1 hd hf hx he λh' h1 h2=>?_;exact M _ h' s.toks (by simp[hx]) ⟨h1,h2.extBut S _ U st.2.1,h2.extBut T _ a st.2.2⟩ λb u hb e=>h2.extBut b u (λz=>hb (by simp[z])) e
 done:=λs Q E st M=>by
  have O:pl.length=es.size:=by rw[hp.length_eq,length_range]
  exact tj hh st.1 st.2.2 st.2.1 hd hf (getElem?_eq_none (by lia)) λh' h1=>M h' s.toks λb u hb e=>h1 b u (λz=>hb (by simp[z])) e
 self:=λ_ _ _ _ st M=>yo st.1 M
end
theorem Af {α:Type}(es:Array α)(d:α):(List.range es.size).map (λp=>es.getD p d)=es.toList:=by
 apply ext_getElem?;intro i;by_cases h:i<es.size
 ·simp[h,getD_eq_getD_getElem?]
 ·simp[h]
section
variable {prog:Program}{w:World}{A:Around}{E:QV}{s:Shared}
theorem tX (h:xs=#[j]):SetTable.below xs k=if j<k then 1 else 0:=by
 subst h;by_cases h:j<k
 ·simp[SetTable.below,SetTable.below.go,h]
 ·simp[SetTable.below,SetTable.below.go,h]
theorem EW {S:Addr}{g:LS}{Q:QV}(H:iY prog w s.heap S g)
  (n:∀(h':Heap)(d:Drawn)(it:Addr)(vs:LU)(fp:List Addr)(St:Nat->Heap->Prop),(∀c,c.handled=none->Walks prog w c it fp [it] g.length (λi v=>vs[i]? = some v) St)->St 0 h' ->
   (∀b u,s.heap.get? b=some u->h'.get? b=some u)->s.heap.objs.size<=it->(∀b∈fp,b=S\/s.heap.objs.size<=b)->vs.length=g.length->(vs.map strOf).Perm g->(∀v∈vs,∃x t,v=.str x t) ->
   Q (.ref it) { s with heap:=h',drawn:=d }):wpAny (model prog w) A (pyIter (.ref S)) Q E s:=by
 obtain⟨o,es,f,t,a,I,hd,J,hp,nd,hb,hf,K,L⟩:=H;have sz:es.size=g.length:=by rw[<-hp.length_eq,vI,vG]
 have U:S<s.heap.objs.size:=vX a;have D:s.TypeIs (.ref S) "set":=⟨_,a,I.1⟩;have O:∀e∈es.toList,∃x t,e.2=.str x t:=λe he=>by
  obtain⟨⟨k,hk,_⟩,_⟩:=J e he;obtain⟨t,q⟩:=Value.isStrOf_shape (show Value.isStrOf k e.2=true from hk);exact⟨k,t,q⟩
 refine wpAny_pyIter_slot D slot_set_iter (wpAny_call_entry slot_set_iter D pi ?_ (PySem.F.args_set_iter_1 _));show wpAny _ _ (Builtin.Frozenset.sizeOf S>>=_) _ _ s;unfold Builtin.Frozenset.sizeOf;refine wX (wX (wpAny_setEntries_of a hd hf (wY ?_)));unfold setDrawn setsByText;refine wX (wX (wpAny_setState_of a hd hf ?_));dsimp only;refine wX (wX (wpAny_askSetting (wY (wY ?_))));show wpAny _ _ (if(!w.params.followText "set-order" && (!t.plain && decide (es.size > 1)))=true then _ else _) _ _ _;have r:(es.toList.map (·.2)).map strOf=es.toList.map (λe=>strOf e.2):=by rw[uP];rfl
 by_cases M:w.params.followText "set-order" = true
 ·rw[if_neg (by rw[M];simp)];refine wX (wY ?_);refine wX (wpAny_setEpoch_of a hd hf ?_);have pp:=Df (w.params.setOrder S f) es;have G:((pickOrder (w.params.setOrder S f) es).toList.map (·.2)).length=es.size:=by rw[vI,pp.length_eq,vG]
  refine wX (wpAny_newObj_type (wY ⟨_,rfl,"set_iterator",_,⟨_,vY _ rfl,rfl⟩,bH.lookup,?_⟩));refine n _ s.drawn s.heap.objs.size ((pickOrder (w.params.setOrder S f) es).toList.map (·.2)) [s.heap.objs.size,S] (λi h=>h.get? s.heap.objs.size=some (lQ (.int ((λ_=>0:Nat->Nat) i:Nat) 0) i S es.size f)/\h.get? S=some o) (λc l=>?_) ?_ (λb u e=>vZ _ e) (vT _) (λb hb=>?_) (G.trans sz) ?_ ?_
  ·rw[<-sz];exact tW l hd hf (vS U) _ G (λ_=>0) (λi x hx c y s z h1 h2=>tV h1 hd hf M (by
    rw[vA,getElem?_toList]at hx;obtain⟨e,he,rfl⟩:=oY hx;rw[he];exact h2)) (λc y s z h1 h2=>tV h1 hd hf M (by
    rw[Array.getElem?_eq_none (by rw[<-vG,pp.length_eq,vG];exact vT _)];exact h2))
  ·exact⟨vY _ rfl,vZ _ a⟩
  ·simp only[mem_cons,not_mem_nil,or_false]at hb;rcases hb with rfl|rfl
   ·exact .inr (vT _)
   ·exact .inl rfl
  ·refine List.Perm.trans ?_ hp;rw[<-r];exact(pp.map _).map _
  ·intro v hv;obtain⟨e,he,rfl⟩:=vO hv;exact O e (pp.mem_iff.mp he)
 ·rw[not_eq_true]at M;have hl:t.led=true:=by rw[K,M];rfl
  by_cases h1:es.size<=1
  ·rw[if_neg (by rw[DP (by lia)];simp)];refine wX (wY ?_);refine wX (wpAny_setEpoch_of a hd hf ?_);refine wX (wpAny_newObj_type (wY ⟨_,rfl,"set_iterator",_,⟨_,vY _ rfl,rfl⟩,bH.lookup,?_⟩));have R:t.place.size=es.size:=by
    simp only[SetTable.fits,vC,beq_iff_eq,decide_eq_true_eq]at hf;exact hf.1
   refine n _ s.drawn s.heap.objs.size (es.toList.map (·.2)) [s.heap.objs.size,S] (λi h=>h.get? s.heap.objs.size=some (lQ (.int ((λi=>if i=0 then 0 else t.place.getD 0 0+1:Nat->Nat) i:Nat) 0) i S es.size f)/\h.get? S=some o) (λc l=>?_) ?_ (λb u e=>vZ _ e) (vT _) (λb hb=>?_) (by rw[vI,vG,sz]) (by rw[r];exact hp) ?_
   ·rw[<-sz];refine tW l hd hf (vS U) _ (by simp) (λi=>if i=0 then 0 else t.place.getD 0 0+1) (λi x hx c y s z B m=>qo B hd hf M hl h1 ?_) (λc y s z B m=>qo B hd hf M hl h1 ?_)
    ·have hi:i<es.size:=by have:=(vV hx).1;simpa using this
     have N:i=0:=by lia
     subst N;obtain⟨j,hj⟩:∃j,t.place=#[j]:=Array.size_eq_one_iff.mp (by lia);rw[if_pos rfl,tX hj,if_neg (by lia)];rw[vA,getElem?_toList]at hx;obtain⟨e,he,rfl⟩:=oY hx;rw[he];simp only[hj]at m |-;simpa using m
    ·by_cases h0:es.size=0
     ·have C:t.place=#[]:=Array.eq_empty_of_size_eq_zero (by lia);have P:es=#[]:=Array.eq_empty_of_size_eq_zero h0;rw[C,P];simpa using m
     ·obtain⟨j,hj⟩:∃j,t.place=#[j]:=Array.size_eq_one_iff.mp (by lia);rw[if_neg h0,tX hj];have:t.place.getD 0 0=j:=by rw[hj];rfl
      rw[this,if_pos (by lia),Array.getElem?_eq_none (by lia)];exact m
   ·exact⟨vY _ rfl,vZ _ a⟩
   ·simp only[mem_cons,not_mem_nil,or_false]at hb;rcases hb with rfl|rfl
    ·exact .inr (vT _)
    ·exact .inl rfl
   ·intro v hv;obtain⟨e,he,rfl⟩:=vO hv;exact O e he
  ·have C:t.plain=false:=L (by lia);rw[if_pos (by rw[M,C,xq (by lia)];rfl)];refine wX (Bj es.size (List.range es.size) _ _ (by simp) λpl d pp=>?_);refine wX (wpAny_newTuple ?_ (by rw[vI,pp.length_eq,length_range,sz];exact fits_of_scanBound hb));refine wX (wpAny_setEpoch_of (vZ _ a) hd hf ?_);refine wX (wpAny_newObj_type (wY ⟨_,rfl,"set_iterator",_,⟨_,vY _ rfl,rfl⟩,bH.lookup,?_⟩));have hsz:(s.heap.push (seqObj "tuple" (pl.map λ(p:Nat)=>Value.int p 0).toArray 0)).objs.size=s.heap.objs.size+1:=size_push' _ _;have T:((pl.map λp=>(es.getD p (0,.none)).2)).Perm (es.toList.map (·.2)):=by
    have:=(pp.map λp=>es.getD p (0,Value.none)).map (·.2);rw[Af]at this;rw[uP]at this;exact this
   refine n _ d _ (pl.map λp=>(es.getD p (0,.none)).2) [(s.heap.push (seqObj "tuple" (pl.map λ(p:Nat)=>Value.int p 0).toArray 0)).objs.size,S,s.heap.objs.size] (λi h=>h.get? (s.heap.push (seqObj "tuple" (pl.map λ(p:Nat)=>Value.int p 0).toArray 0)).objs.size=some (lQ (.ref s.heap.objs.size) i S es.size f)/\h.get? S=some o/\h.get? s.heap.objs.size=some (seqObj "tuple" (pl.map λ(p:Nat)=>Value.int p 0).toArray 0)) (λc l=>?_) ?_ (λb u e=>vZ _ (vZ _ e)) ?_ (λb hb=>?_) ?_ ?_ ?_
   ·rw[<-sz];exact Ae (nt:=0) l hd hf (by show S≠(s.heap.push _).objs.size;rw[size_push'];exact vS (lt_succ_of_lt U)) (by show s.heap.objs.size≠(s.heap.push _).objs.size;rw[size_push'];exact vS (lt_succ_self _)) pp
   ·exact⟨vY _ rfl,vZ _ (vZ _ a),vZ _ (vY _ rfl)⟩
   ·show s.heap.objs.size<=(s.heap.push _).objs.size;rw[size_push'];lia
   ·simp only[mem_cons,not_mem_nil,or_false]at hb;rcases hb with rfl|rfl|rfl
    ·refine .inr ?_;show s.heap.objs.size<=(s.heap.push _).objs.size;rw[size_push'];lia
    ·exact .inl rfl
    ·exact .inr (vT _)
   ·rw[T.length_eq,vI,vG,sz]
   ·exact((T.map strOf).trans (by rw[r])).trans hp
   ·intro v hv;obtain⟨e,he,rfl⟩:=vO (T.mem_iff.mp hv);exact O e he
end
theorem Dg (h:ItemsOf (λi v=>vs[i]? = some v) M vs.length):M.toList=vs:=by
 apply ext_getElem?;intro i;by_cases hi:i<M.size
 ·have e:M[i]? = some M[i]:=getElem?_eq_getElem hi;rw[getElem?_toList,e,h.2 i _ e]
 ·rw[getElem?_eq_none (by rw[vG];lia),getElem?_eq_none (by rw[<-h.1];lia)]
section
variable {prog:Program}{w:World}{A:Around}{E:QV}{s:Shared}
theorem yp (hh:A.handled=none)(f:iY prog w s.heap S ts)
  (D:∀s' vs,(∀b u,s.heap.get? b=some u->s'.heap.get? b=some u)->s'.gens=s.gens->s'.os=s.os->vs.length=ts.length->(vs.map strOf).Perm ts->(∀v∈vs,∃x t,v=.str x t)->Q vs s'):
  wpAny (model prog w) A (collect (.ref S)) Q E s:=by
 have M:∀(s1:Shared),iY prog w s1.heap S ts->s1.TypeIs (.ref S) "set":=λs1 h=>by
  obtain⟨o,_,_,_,g,G,_⟩:=h;exact⟨o,g,G.1⟩
 have H:S<s.heap.objs.size:=by obtain⟨o,_,_,_,g,_⟩:=f;exact vX g
 have U:ts.length<scanBound:=by obtain⟨_,_,_,_,_,_,_,_,_,_,h,_⟩:=f;exact h
 unfold collect;refine wX (wpAny_runValue (codeAny_builtin PySem.F.entry_proto_collect ?_));rw[Around.under_plainId PySem.F.plain_proto_collect _];show wpAny _ A.in1 (newList []>>=λl=>again (.builtin "list.__iadd__" ⟨[l,.ref S],[]⟩)) _ _ s;refine wX (wpAny_newObj_type ?_);refine wY ⟨plainId_quiet PySem.F.plain_list_iadd _,codeAny_builtin PySem.F.entry_list_iadd ?_⟩;rw[Around.under_plainId PySem.F.plain_list_iadd _];show wpAny _ A.in1 (Builtin.List.listExtendWith (.ref s.heap.objs.size) (.ref S) (.ref s.heap.objs.size)) _ _ _;unfold Builtin.List.listExtendWith;have i:iY prog w (s.heap.push { cls:=.type "list",data:=.seq ([]:LU).toArray }) S ts:=f.at λo e=>vZ _ e;refine wX (wpAny_typeOf (M _ i) ?_);have n:s.heap.objs.size≠S:=ne_of_gt H;have h1:Builtin.List.listSameRef (.ref s.heap.objs.size) (.ref S)=false:=by simp[Builtin.List.listSameRef,n]
 have h2:(Value.type "set" == Value.type "list")=false:=by decide
 have h3:(Value.type "set" == Value.type "tuple")=false:=by decide
 simp only[h1,h2,h3,Bool.or_false,uV,if_false];refine wX (EW (s:={ s with heap:=s.heap.push { cls:=.type "list",data:=.seq ([]:LU).toArray } }) i λh' d it vs fp St W I hk DR j p a J=>?_);have k:iY prog w h' S ts:=i.at λo e=>hk _ _ e;refine wX (wpAny_holding ?_);unfold Builtin.List.listLengthHint;refine wX (wpAny_specialOf (M _ k) PySem.F.slot_set_len.lookup ?_);wp_delta;refine wX (wpAny_isInstance (M _ k) sub_set_self ?_);show wpAny _ A.in1 (typeOf (Value.ref S)>>=_) _ _ _;refine wX (wpAny_typeOf (M _ k) ?_);refine wY ?_;rw[if_pos (by decide)];refine wX (wpAny_rule ?_);refine wX ?_;have O:(s.heap.push { cls:=.type "list",data:=.seq ([]:LU).toArray }).objs.size=s.heap.objs.size+1:=size_push' _ _;have q:h'.get? s.heap.objs.size=some { cls:=.type "list",data:=.seq ([]:LU).toArray }:=hk _ _ (vY _ rfl);show wpAny _ A.in1 (updateSeq s.heap.objs.size (·.push .none)>>=λ_=>updateSeq s.heap.objs.size (·.pop)) _ _ _;refine wX (wpAny_updateSeq q rfl ?_);have r:=Heap.get?_update_self (Obj.mapSeq (·.push Value.none)) q rfl;refine wpAny_updateSeq r rfl ?_;have K:=Heap.get?_update_self (Obj.mapSeq (·.pop)) r rfl;have y:s.heap.objs.size∉fp:=λhm=>by
  rcases j _ hm with z|z
  ·exact n z
  ·rw[O]at z;exact absurd z (Nat.not_succ_le_self _)
 have B:∀b u,b≠s.heap.objs.size->h'.get? b=some u ->
   ((h'.update s.heap.objs.size (Obj.mapSeq (·.push Value.none))).update s.heap.objs.size (Obj.mapSeq (·.pop))).get? b=some u :=
  λb u hb e=>(Heap.get?_update_other _ _ (Ne.symm hb)).trans ((Heap.get?_update_other _ _ (Ne.symm hb)).trans e)
 have C:=W A.in1 hh;refine wY ⟨plainId_quiet PySem.F.plain_extend_loop _,codeAny_extend_loopS C.toS (fits_of_scanBound U) _ y _ ts.length 0 _ _ _ rfl (uN _)
  (C.frame 0 _ _ I λb hb u e=>B b u (λz=>y (z ▸ hb)) e) K (ItemsOf.nil _) λs' c L hm m T=>?_⟩
 show wpAny _ A (load s.heap.objs.size>>=_) _ _ s';refine wX (wpAny_load m ?_);rw[<-p]at T;refine wY ?_;show Q c.toList s';rw[Dg T];refine D s' vs (λb u e=>hm.heap b u (λhb=>?_) (B b u (vS (vX e)) (hk _ _ (vZ _ e)))) hm.gens hm.os p a J;have hl:=vX e;simp only[mem_cons,not_mem_nil,or_false]at hb;rcases hb with rfl|rfl
 ·exact absurd hl (Nat.lt_irrefl _)
 ·rw[O]at DR;exact absurd (vQ hl (Nat.le_of_succ_le DR)) (Nat.lt_irrefl _)
theorem Ag (hh:A.handled=none)(h:iY prog w s.heap S ts)(i:ts.length<64)
  (j:∀(s1:Shared)(h':Heap)(a:Addr)(out:AV)(n:Nat)(M:LS),(∀b u,s.heap.get? b=some u->s1.heap.get? b=some u)->s1.os=s.os->s1.gens=s.gens->(∀b u,s1.heap.get? b=some u->h'.get? b=some u)->s1.heap.objs.size<=a->h'.get? a=some (seqObj "list" out n) ->
   StrsAre out.toList M->M.Perm ts->sortedS M=true->Q (.ref a) { s1 with heap:=h' }):
  wpAny (model prog w) A (call (.builtin "sorted") [.ref S]) Q E s:=by
 refine Calls.call_function_entry kind_sorted plain_sorted entry_sorted (args_sorted1 _) ?_;unfold Builtin.«sorted»;refine wX (m:=checkCount "sorted" 1 1 _) (wY ?_);refine wX (yp (A:=A.in1) (by exact hh) h λs1 vs hk k c d O l=>?_);have T:StrsAre vs (vs.map strOf):=strsAre_map vs l;refine wX (wpAny_newList ?_ (by rw[d,sizeLine_eq];lia));have U:(s1.heap.push (seqObj "list" vs.toArray 0)).get? s1.heap.objs.size=some (seqObj "list" vs.toArray 0):=vY _ rfl;show wpAny _ _ _ _ _ { s1 with heap:=s1.heap.push (seqObj "list" vs.toArray 0) };refine wX (wpAny_holding (wpAny_call_entry slot_list_sort ⟨_,U,rfl⟩ entry_list_sort (list_sort_treeK strKind_oneLt U T.keysOf (λf g aH e=>keyKind_strs (by rw[<-e];exact T)) (by rw[d];exact i) λo p r=>⟨_,rfl,?_⟩) (args_list_sort _)));obtain⟨M,b1,b2,b3⟩:=sorted_out_str T p r;obtain⟨e,he⟩:=sortedHeap_at (out:=(arrOf o).map (·.2)) U;refine wY ⟨_,rfl,j s1 _ _ _ e M hk c k (λb u q=>?_) (vT _) he b1 (b2.trans O) b3⟩;have hl:=vX q;rw[sortedHeap_old (vS hl) (by rw[size_push'];exact lt_succ_of_lt hl)];exact vZ _ q
end
end DL
namespace DL
open PySem PySem.Spec PyProof.Rows L2
def wz (a b:Str):Prop:=¬b.cps.toList<a.cps.toList
theorem Bl:ltCps b.cps.toList a.cps.toList=false↔wz a b:=by rw[ltCps_eq,decide_eq_false_iff_not];rfl
theorem tY (h:wz a b)(k:wz b c):wz a c:=by
 unfold wz at *;exact not_lt.mpr (le_trans (not_lt.mp h) (not_lt.mp k))
theorem EX (h:wz a b)(k:wz b a):a=b:=by
 have e:a.cps.toList=b.cps.toList:=le_antisymm (not_lt.mp h) (not_lt.mp k);obtain⟨a⟩:=a;obtain⟨b⟩:=b;have:a=b:=toList_inj.mp e;rw[this]
noncomputable def Ah (x:Str):LS->LS
 |[]=>[x]
 |y::r=>if ltCps y.cps.toList x.cps.toList then y::Ah x r else x::y::r
noncomputable def lD (l:LS):LS:=l.foldr Ah []
theorem nD (x:Str):∀l,(Ah x l).Perm (x::l)
 |[]=>List.Perm.refl _
 |y::r=>by
  unfold Ah;split
  ·exact((nD x r).cons y).trans (List.Perm.swap x y r)
  ·exact List.Perm.refl _
theorem ge:∀l,(lD l).Perm l
 |[]=>List.Perm.refl _
 |x::l=>(nD x (lD l)).trans ((ge l).cons x)
theorem tZ (x:Str):∀l,l.Pairwise wz->(Ah x l).Pairwise wz
 |[],_=>by simp[Ah]
 |y::r,h=>by
  obtain⟨h1,h2⟩:=pairwise_cons.mp h;unfold Ah;split
  ·rename_i hl;refine pairwise_cons.mpr ⟨λz hz=>?_,tZ x r h2⟩;rcases vP ((nD x r).mem_iff.mp hz)with rfl|hz
   ·rw[ltCps_eq,decide_eq_true_eq]at hl;exact λk=>lt_irrefl _ (lt_trans hl k)
   ·exact h1 z hz
  ·rename_i hl;rw[not_eq_true]at hl;have M:wz x y:=Bl.mp hl;refine pairwise_cons.mpr ⟨λz hz=>?_,h⟩;rcases vP hz with rfl|hz
   ·exact M
   ·exact tY M (h1 z hz)
theorem qp:∀l,(lD l).Pairwise wz
 |[]=>List.Pairwise.nil
 |x::l=>tZ x _ (qp l)
theorem oz:∀(l:LS)(p:Str),risingS p l=true->(p::l).Pairwise wz
 |[],p,_=>List.pairwise_singleton _ _
 |x::r,p,h=>by
  have h':(!ltCps x.cps.toList p.cps.toList && risingS x r)=true:=h;rw[vC]at h';have M:wz p x:=Bl.mp (by simpa using h'.1);have O:=oz r x h'.2;refine pairwise_cons.mpr ⟨λz hz=>?_,O⟩;rcases vP hz with rfl|hz
  ·exact M
  ·exact tY M ((pairwise_cons.mp O).1 z hz)
theorem yq:∀(l:LS),sortedS l=true->l.Pairwise wz
 |[],_=>List.Pairwise.nil
 |x::r,h=>oz r x h
theorem yr (a:Str):wz a a:=lt_irrefl _
theorem qq:∀(O M:LS),O.Perm M->O.Pairwise wz->M.Pairwise wz->O=M
 |[],M,p,_,_=>(nil_perm.mp p).symm
 |x::a,[],p,_,_=>absurd p.length_eq (by simp)
 |x::a,y::b,p,h1,h2=>by
  have T:wz x y:=by
   rcases vP (p.mem_iff.mpr (mX ..))with z|z
   ·rw[z];exact yr _
   ·exact(pairwise_cons.mp h1).1 y z
  have U:wz y x:=by
   rcases vP (p.mem_iff.mp (mX ..))with z|z
   ·rw[z];exact yr _
   ·exact(pairwise_cons.mp h2).1 x z
  have e:=EX T U;subst e;rw[qq a b (List.Perm.cons_inv p) (pairwise_cons.mp h1).2 (pairwise_cons.mp h2).2]
theorem Dh (p:M.Perm l)(h:sortedS M=true):M=lD l:=qq _ _ (p.trans (ge l).symm) (yq _ h) (qp l)
section
variable {X:Cx}
noncomputable def EY (X:Cx)(S:Addr)(M:LS):HO:=.ext λh=>iY X.prog X.w h S M
theorem ua (I:Inv X ae σ H s)(k:∀b u,s.heap.get? b=some u->s1.heap.get? b=some u)(M:s1.os=s.os)(O:s1.gens=s.gens):Inv X ae σ H s1:=by
 have I1:=I.step (g':=s.gens) (d':=s1.drawn) (t':=s1.toks) (h':=s1.heap) (H':=H) (ch:=[]) (λ_ z=>nomatch z) (λb o _ _ _ e _=>k b o e) (λb o _ _ _ e _=>⟨o.slots,k b o e⟩) (λ_ _ _ _ n=>n)
  (λb o _ e=>⟨o,k b o e⟩) (λ_ _ e=>e) (λ_ _ _ e=>e) (λ_ _ e=>e) (λm hm=>?_) (I.hok.kept k) I.bare
 ·obtain⟨h1,g1,d1,U,a⟩:=s1;cases M;cases O
  exact I1
 ·obtain⟨o,es,T,M,r⟩:=hm;exact⟨o,es,T,k _ o M,r⟩
theorem yt (hc:X.calm=true):ci X (.type "set") (λxs H Q=>∃p ys M,xs=[.ref p]/\fx X.K H p ys/\(∀its,bj ys its->StrsAre its M)/\M.length<4000/\∀S,H S=none->Q (.ref S) (upd H S (EY X S (iZ M)))):=by
 intro ae s σ H xs us Q I r h;obtain⟨p,ys,M,rfl,hq,hs,f,q⟩:=h;obtain⟨u,rfl,a⟩:=hG r;cases a
 obtain⟨its,c,pl,hz⟩:=I.list hq;have O:=hs its c;have T:its.length=M.length:=by rw[<-O.strs,vI]
 refine ql (I.ok.hd hc) pl.isList (by simpa using O) (by simp only[vH];unfold scanBound;lia) λh' tk U hk=>?_;refine⟨.ref s.heap.objs.size,_,I.laid (t':=tk) (λb u e=>hk b u (vX e) e) (vT _) ?_,rfl,q _ (I.hok.fresh (vT _))⟩;refine⟨U,?_,λh1 h2 z k=>z.at k⟩;obtain⟨o,_,_,_,d,_⟩:=U;exact⟨o,d⟩
theorem pj (hc:X.calm=true):ci X (.builtin "sorted") (λxs H Q=>∃S O,xs=[.ref S]/\H S=some (EY X S O)/\O.length<64/\∀l,H l=none->Q (.ref l) (upd H l (.lst ((lD O).map .str)))):=by
 intro ae s σ H xs us Q I r h;obtain⟨S,O,rfl,b,T,q⟩:=h;obtain⟨u,rfl,c⟩:=hG r;cases c
 have d:iY X.prog X.w s.heap S O:=(I.hok S _ b).1;refine Ag (I.ok.hd hc) d T λs1 h' a out n f k1 g i k2 hp he U M j=>?_;have e:=Dh M j;subst e;have I1:=ua I k1 g i;have hv:∀ {its:LU}{zs:LS},StrsAre its zs->bj (zs.map V.str) its:=λz=>by
  induction z with
  |nil=>exact .nil
  |cons x t _ k=>exact .cons ⟨t,rfl⟩ k
 refine⟨.ref a,_,I1.laid (t':=s1.toks) k2 hp (show c7 X.prog X.w _ h' _ (.lst _)from ⟨?_,out.toList,n,hv U,he⟩),rfl,q _ (I1.hok.fresh hp)⟩;rw[vI,(ge O).length_eq,sizeLine_eq];lia
end
@[simp] def gA:D->OB
 |.lst ds=>(iO ds).bind λM=>if M.length<64 then some (.lst ((lD (iZ M)).map .str),true)else none
 |_=>none
theorem yu:bootBuiltins "sorted" = some (.builtin "sorted"):=by decide +kernel
theorem OR:bootBuiltins "set" = some (.type "set"):=by decide +kernel
theorem qr {K:Frag}{N:Hp}:∀(zs:LS),IsL K N (zs.map V.str) (zs.map D.str)
 |[]=>.nil
 |z::zs=>.cons (.str z) (qr zs)
section
variable {X:Cx}{e:Expr}{pos pos2 p p2:Pos}
theorem qt (hc:X.calm=true)(c:X.mg "sorted" = none)(d:X.mg "set" = none)(he:JE X e f)(g1:Gl X "sorted":=by rfl)(g:Gl X "set":=by rfl)
  (h1:starEach [e] X.env=(false,eval e X.env)::starEach [] X.env:=by rfl):JE X (.Call (.Name "sorted" p) [.Call (.Name "set" p2) [e] [] pos2] [] pos) (f1 gA f):=by
 refine PE.to (xF (pj hc) g1 c yu (cO (tG (yt hc) g d OR (cO he gI h1) (he:=h1)) gI)) λσ H Q q=>?_;obtain⟨B,ρ,d',bb,i,r,M,q⟩:=q;obtain⟨a,ex,M⟩:=oX M;refine⟨B,ρ,a.1,a.2,i,r,ex,λv w N1 T j fr=>?_⟩;obtain⟨xd,x⟩:=a;cases j<;>try (simp[gA]at M;done)
 rename_i y vs ds h hl;simp only[gA]at M;obtain⟨U,k,M⟩:=oX M;split at M
 ·rename_i m;cases M
  refine⟨_,_,U,rfl,T.nh.seq h,λits n=>ky n hl k,by lia,λS s=>⟨S,_,rfl,aA,lt_of_le_of_lt (qk U) m,λl O=>?_⟩⟩;have b:=Ext.laid (o:=EY X S (iZ U)) T.nh s;have t:=Ext.laid (o:=.lst ((lD (iZ U)).map V.str)) b.nh O;have u:H l=none:=((T.trans b).hh).free O;exact q _ _ _ ((T.trans b).trans t) (.lst (fx.of aA) (qr _)) λ_=>⟨_,_,_,rfl,rfl,u,aA,qr _⟩
 ·cases M
end
end DL
namespace DL
open PySem PySem.Spec PySem.W PyProof.Rows
inductive Run (n:Nat)(lt:Nat->Nat->Bool){α:Type}:KasT α->α->Prop where
 |ret (a:α):Run n lt (.ret a) a
 |ask {i j:Nat}{k:Bool->KasT α}{a:α}(hi:i<n) (hj:j<n) (h:Run n lt (k (lt i j)) a):Run n lt (.ask i j k) a
theorem Run.bind {n:Nat}{lt:Nat->Nat->Bool}{α M:Type}{t:KasT α}{f:α->KasT M}{a:α}{b:M}(h:Run n lt t a)(k:Run n lt (f a) b):Run n lt (t.bind f) b:=by
 induction h with
 |ret a=>exact k
 |ask hi hj _ O=>exact .ask hi hj (O k)
theorem Run.wp {n:Nat}{lt:Nat->Nat->Bool}{α:Type}{M:Nat->Nat->(Bool->Shared->Prop)->Shared->Prop}{Q:α->Shared->Prop}{t:KasT α}{a:α}(J:Shared->Prop)
  (hc:∀i j C s,i<n->j<n->J s->(∀s',J s'->C (lt i j) s')->M i j C s) (h:Run n lt t a):∀ {s:Shared},J s->(∀s',J s'->Q a s')->t.kasWp M Q s:=by
 induction h with
 |ret a=>intro s O T;exact T s O
 |ask hi hj _ b=>intro s O T;exact hc _ _ _ _ hi hj O λs' U=>b U T
section
variable {n:Nat}{rk:Nat->Int}
noncomputable abbrev qu (rk:Nat->Int)(i j:Nat):Bool:=decide (rk i<rk j)
noncomputable def c9 (rk:Nat->Int)(p:Array Nat)(k:Nat):Int:=rk (p.getD k 0)
structure p0 (n:Nat)(p:Array Nat):Prop where
 size:p.size=n
 perm:p.toList.Perm (List.range n)
theorem p0.lt {p:Array Nat}(h:p0 n p){k:Nat}(hk:k<n):p.getD k 0<n:=by
 have M:k<p.size:=by rw[h.size];exact hk
 have:p.getD k 0=p[k]:=by rw[getD_eq_getD_getElem?,getElem?_eq_getElem M];rfl
 rw[this];exact mem_range.mp (h.perm.mem_iff.mp (by simp))
theorem p0.rev {p:Array Nat}(h:p0 n p)(i j:Nat):p0 n (kas_rev p i j) :=
 ⟨(mirror_size _ _ _ _).trans h.size,(Array.perm_iff_toList_perm.mp (mirror_perm p i j _)).trans h.perm⟩
theorem p0.bub {p:Array Nat}(h:p0 n p)(k d:Nat):p0 n (bubble p k d) :=
 ⟨(bubble_size _ _ _).trans h.size,(Array.perm_iff_toList_perm.mp (bubble_perm p k d)).trans h.perm⟩
theorem wA {p:Array Nat}{i j:Nat}(hj:j<=p.size)(k:Nat):c9 rk (kas_rev p i j) k=if i<=k/\k<j then c9 rk p (i+j - 1 - k)else c9 rk p k:=by
 unfold c9 kas_rev;rw[getD_eq_getD_getElem?,getElem?_mirror_all hj];split<;>rw[getD_eq_getD_getElem?]
theorem EZ {p:Array Nat}{M d:Nat}(hs:M<p.size)(hd:d<=M)(k:Nat):c9 rk (bubble p M d) k=if k=M - d then c9 rk p M else if M - d<k/\k<=M then c9 rk p (k - 1)else c9 rk p k:=by
 unfold c9;simp only[getD_eq_getD_getElem?];rw[getElem?_bubble hs d hd];repeat' split
 all_goals rfl
def Up (rk:Nat->Int)(p:Array Nat)(m:Nat):Prop:=∀i j,i<=j->j<m->c9 rk p i<=c9 rk p j
def wB (rk:Nat->Int)(p:Array Nat)(m:Nat):Prop:=∀i j,i<=j->j<m->c9 rk p j<=c9 rk p i
theorem Mh (p:Array Nat):Up rk p 1:=λi j h1 h2=>by
 have:i=j:=by lia
 subst this;exact le_refl _
theorem wC {p:Array Nat}(h:p0 n p){r:Nat}(hr:r<=n):∀(f m:Nat),r - m=f->1<=m->m<=r->Up rk p m->∃M,Run n (qu rk) (kas_asc p f m) M/\m<=M/\M<=r/\Up rk p M/\(M<r->c9 rk p M<c9 rk p (M - 1))
 |0,m,hf,h1,hm,hu=>⟨m,.ret m,vT _,hm,hu,λz=>by lia⟩
 |f+1,m,hf,h1,hm,hu=>by
  have U:=h.lt (k:=m) (by lia);have a:=h.lt (k:=m - 1) (by lia);by_cases hc:c9 rk p m<c9 rk p (m - 1)
  ·refine⟨m,.ask U a ?_,vT _,hm,hu,λ_=>hc⟩;have:qu rk (p.getD m 0) (p.getD (m - 1) 0)=true:=xq hc;rw[this,if_pos rfl];exact .ret m
  ·have O:Up rk p (m+1):=λi j T hj=>by
    by_cases e:j=m
    ·subst e;by_cases e2:i=j
     ·subst e2;exact le_refl _
     ·have:=hu i (j - 1) (by lia) (by lia);lia
    ·exact hu i j T (by lia)
   obtain⟨M,b,l,c,d,g⟩:=wC h hr f (m+1) (by lia) (by lia) (by lia) O;refine⟨M,.ask U a ?_,by lia,c,d,g⟩;have:qu rk (p.getD m 0) (p.getD (m - 1) 0)=false:=DP hc;rw[this,if_neg uX];exact b
def Ix (rk:Nat->Int)(p:Array Nat)(m q:Nat):Prop:=q+1<=m/\∀k,m - (q+1)<=k->k<m->c9 rk p k=c9 rk p (m - 1)
theorem yv {p:Array Nat}{m q:Nat}(hs:m<=p.size)(hf:Ix rk p m q)(k:Nat):c9 rk (kas_rev p (m - (q+1)) m) k=c9 rk p k:=by
 rw[wA hs];split
 ·rename_i hk;have h0:=hf.1;rw[hf.2 k hk.1 hk.2,hf.2 _ (by lia) (by lia)]
 ·rfl
theorem Bm {p M:Array Nat}{m:Nat}(e:∀k,c9 rk M k=c9 rk p k)(h:wB rk p m):wB rk M m:=λi j h1 h2=>by rw[e,e];exact h i j h1 h2
theorem qw (p:Array Nat){m:Nat}(h:1<=m):Ix rk p m 0:=⟨h,λk h1 h2=>by
 have:k=m - 1:=by lia
 rw[this]⟩
theorem m6 {r:Nat}(hr:r<=n):∀(f:Nat)(p:Array Nat)(m q:Nat),p0 n p->r - m=f->1<=m->m<=r->wB rk p m->Ix rk p m q->∃M O a,Run n (qu rk) (kas_desc f p m q) (M,O,a)/\p0 n M/\m<=O/\O<=r/\wB rk M O/\Ix rk M O a
 |0,p,m,q,h,hf,h1,hm,hd,hq=>⟨p,m,q,.ret _,h,vT _,hm,hd,hq⟩
 |f+1,p,m,q,h,hf,h1,hm,hd,hq=>by
  have b:=h.lt (k:=m) (by lia);have c:=h.lt (k:=m - 1) (by lia);have step:∀M:Array Nat,(∀k,c9 rk M k=c9 rk p k)->c9 rk p m<=c9 rk p (m - 1)->wB rk M (m+1):=λM e x i j t hj=>by
   rw[e,e];by_cases z:j=m
   ·subst z;by_cases w:i=j
    ·subst w;exact le_refl _
    ·have:=hd i (j - 1) (by lia) (by lia);lia
   ·exact hd i j t (by lia)
  by_cases hc:c9 rk p m<c9 rk p (m - 1)
  ·have T:qu rk (p.getD m 0) (p.getD (m - 1) 0)=true:=xq hc;by_cases d:q > 0
   ·have e:=yv (p:=p) (by rw[h.size];lia) hq;obtain⟨M,O,a,g1,g,u,l,o,s⟩:=m6 hr f (kas_rev p (m - (q+1)) m) (m+1) 0 (h.rev _ _) (by lia) (by lia) (by lia) (step _ e (by lia)) (qw _ (by lia));refine⟨M,O,a,.ask b c ?_,g,by lia,l,o,s⟩;rw[T,if_pos rfl,if_pos d];exact g1
   ·obtain⟨M,O,a,g1,g,u,l,o,s⟩:=m6 hr f p (m+1) 0 h (by lia) (by lia) (by lia) (step _ (λ_=>rfl) (by lia)) (qw _ (by lia));refine⟨M,O,a,.ask b c ?_,g,by lia,l,o,s⟩;rw[T,if_pos rfl,if_neg d];exact g1
  ·have T:qu rk (p.getD m 0) (p.getD (m - 1) 0)=false:=DP hc;by_cases v:c9 rk p (m - 1)<c9 rk p m
   ·have U:qu rk (p.getD (m - 1) 0) (p.getD m 0)=true:=xq v;refine⟨p,m,q,.ask b c ?_,h,vT _,hm,hd,hq⟩;rw[T,if_neg uX];refine .ask c b ?_;rw[U,if_pos rfl];exact .ret _
   ·have U:qu rk (p.getD (m - 1) 0) (p.getD m 0)=false:=DP v;have he:c9 rk p m=c9 rk p (m - 1):=by lia
    obtain⟨M,O,a,g1,g,u,l,o,s⟩:=m6 hr f p (m+1) (q+1) h (by lia) (by lia) (by lia) (step _ (λ_=>rfl) (by lia)) ⟨by have:=hq.1;lia,λk k1 k2=>by
     rw[Nat.add_sub_cancel];by_cases z:k=m
     ·rw[z]
     ·rw[hq.2 k (by lia) (by lia),he]⟩
    refine⟨M,O,a,.ask b c ?_,g,by lia,l,o,s⟩;rw[T,if_neg uX];refine .ask c b ?_;rw[U,if_neg uX];exact g1
theorem yw {r:Nat}(hr:r<=n){p:Array Nat}(h:p0 n p){m:Nat}(h1:1<=m)(hm:m<=r)(hd:wB rk p m):∃M O,Run n (qu rk) (kas_tail3 m r p) (M,O)/\p0 n O/\1<=M/\M<=r/\Up rk O M:=by
 have hu:Up rk (kas_rev p 0 m) m:=λi j T hj=>by
  rw[wA (by rw[h.size];lia),wA (by rw[h.size];lia),if_pos (by lia),if_pos (by lia)];exact hd _ _ (by lia) (by lia)
 obtain⟨M,U,c,a,b,_⟩:=wC (h.rev 0 m) hr (r - m) m rfl h1 hm hu;exact⟨M,_,U.bind (.ret _),h.rev 0 m,by lia,a,b⟩
theorem yx {r:Nat}(hr:r<=n){p:Array Nat}(h:p0 n p){m:Nat}(hm:m+1<=r)(hd:wB rk p (m+1)):∃M O,Run n (qu rk) (kas_descPart m r p) (M,O)/\p0 n O/\1<=M/\M<=r/\Up rk O M:=by
 obtain⟨i,T,d,g1,U,j,e,f,g⟩:=m6 hr (r - (m+1)) p (m+1) 0 h rfl (by lia) hm hd (qw _ (by lia));by_cases hq:d > 0
 ·obtain⟨M,O,k1,k2,a,b,c⟩:=yw hr (U.rev (T - (d+1)) T) (m:=T) (by lia) e (Bm (yv (by rw[U.size];lia) g) f);exact⟨M,O,g1.bind (by dsimp only;rw[if_pos hq];exact k1),k2,a,b,c⟩
 ·obtain⟨M,O,k1,k2,a,b,c⟩:=yw hr U (m:=T) (by lia) e f;exact⟨M,O,g1.bind (by dsimp only;rw[if_neg hq];exact k1),k2,a,b,c⟩
theorem Di {p:Array Nat}(h:p0 n p)(hn:1<=n):∃O T,Run n (qu rk) (kas_count n p) (O,T)/\p0 n T/\1<=O/\O<=n/\Up rk T O:=by
 obtain⟨m,a,q,r,b,t⟩:=wC h (vT n) (n - 1) 1 rfl (vT 1) hn (Mh (rk:=rk) p);by_cases e:m=n
 ·exact⟨m,p,a.bind (by rw[if_pos (by simp[e])];exact .ret _),h,q,r,b⟩
 ·have s:=t (by lia);have d:¬(m == n)=true:=by simp[e]
  by_cases U:m > 1
  ·by_cases hc:c9 rk p 0<c9 rk p (m - 1)
   ·refine⟨m,p,a.bind ?_,h,q,r,b⟩;rw[if_neg d,if_pos U];refine .ask (h.lt (by lia)) (h.lt (by lia)) ?_;have:qu rk (p.getD 0 0) (p.getD (m - 1) 0)=true:=xq hc;rw[this,if_pos rfl];exact .ret _
   ·have M:∀k,k<m->c9 rk p k=c9 rk p 0:=λk hk=>by
     have v:=b 0 k (by lia) hk;have c:=b k (m - 1) (by lia) (by lia);lia
    have er:∀k,c9 rk (kas_rev p 0 m) k=c9 rk p k:=λk=>by
     rw[wA (by rw[h.size];lia)];split
     ·rename_i z;rw[M _ (by lia),M k z.2]
     ·rfl
    have hd:wB rk p (m+1):=λi j f hj=>by
     by_cases z:j=m
     ·subst z;by_cases c:i=j
      ·subst c;exact le_refl _
      ·rw[M i (by lia)];rw[M (j - 1) (by lia)]at s;lia
     ·rw[M i (by lia),M j (by lia)];exact le_refl _
    obtain⟨O,T,k1,k2,g,l,o⟩:=yx (vT n) (h.rev 0 m) (m:=m) (by lia) (Bm er hd);refine⟨O,T,a.bind ?_,k2,g,l,o⟩;rw[if_neg d,if_pos U];refine .ask (h.lt (by lia)) (h.lt (by lia)) ?_;have:qu rk (p.getD 0 0) (p.getD (m - 1) 0)=false:=DP hc;rw[this,if_neg uX];exact k1
  ·have u:m=1:=by lia
   subst u;have hd:wB rk p 2:=λi j f hj=>by
    by_cases c:i=j
    ·subst c;exact le_refl _
    ·have:i=0:=by lia
     have:j=1:=by lia
     subst_vars;have:=s;simp at this;lia
   obtain⟨O,T,k1,k2,g,l,o⟩:=yx (vT n) h (m:=1) (by lia) hd;refine⟨O,T,a.bind ?_,k2,g,l,o⟩;rw[if_neg d,if_neg U];exact k1
theorem nF {p:Array Nat}(h:p0 n p){k:Nat}(hk:k<n)(hu:Up rk p k):∀(f l r:Nat),r - l<=f->l<=r->r<=k->(∀i,i<l->c9 rk p i<=c9 rk p k)->(∀i,r<=i->i<k->c9 rk p k<c9 rk p i) ->
  ∃M,Run n (qu rk) (kas_place p k f l r) M/\M<=k/\(∀i,i<M->c9 rk p i<=c9 rk p k)/\(∀i,M<=i->i<k->c9 rk p k<c9 rk p i)
 |0,l,r,hf,hl,hr,h1,h2=>⟨l,.ret l,by lia,h1,λi a b=>h2 i (by lia) b⟩
 |f+1,l,r,hf,hl,hr,h1,h2=>by
  by_cases hge:l ≥ r
  ·refine⟨l,?_,by lia,h1,λi a b=>h2 i (by lia) b⟩;unfold kas_place;rw[if_pos hge];exact .ret l
  ·by_cases hc:c9 rk p k<c9 rk p ((l+r) / 2)
   ·obtain⟨M,O,T,U,c⟩:=nF h hk hu f l ((l+r) / 2) (by lia) (by lia) (by lia) h1 λi a b=>by
     have:=hu ((l+r) / 2) i a b;lia
    refine⟨M,?_,T,U,c⟩;unfold kas_place;rw[if_neg hge];refine .ask (h.lt (by lia)) (h.lt (by lia)) ?_;have:qu rk (p.getD k 0) (p.getD ((l+r) / 2) 0)=true:=xq hc;rw[this,if_pos rfl];exact O
   ·obtain⟨M,O,T,U,c⟩:=nF h hk hu f ((l+r) / 2+1) r (by lia) (by lia) hr (λi a=>by
     have:=hu i ((l+r) / 2) (by lia) (by lia);lia) h2
    refine⟨M,?_,T,U,c⟩;unfold kas_place;rw[if_neg hge];refine .ask (h.lt (by lia)) (h.lt (by lia)) ?_;have:qu rk (p.getD k 0) (p.getD ((l+r) / 2) 0)=false:=DP hc;rw[this,if_neg uX];exact O
theorem Bn:∀(f:Nat)(p:Array Nat)(k:Nat),p0 n p->n - k=f->k<=n->Up rk p k->∃M,Run n (qu rk) (kas_bin f p k) M/\p0 n M/\Up rk M n
 |0,p,k,h,hf,hk,hu=>⟨p,.ret p,h,(show k=n by lia) ▸ hu⟩
 |f+1,p,k,h,hf,hk,hu=>by
  have O:k<n:=by lia
  obtain⟨l,o,t,q,r⟩:=nF h O hu k 0 k (by lia) (by lia) (vT _) (λi z=>by lia) (λi a b=>by lia);have hsz:k<p.size:=by rw[h.size];exact O
  have U:Up rk (bubble p k (k - l)) (k+1):=λi j c hj=>by
   rw[EZ hsz (by lia),EZ hsz (by lia)];have e:k - (k - l)=l:=by lia
   rw[e];by_cases d:i=l
   ·rw[if_pos d];by_cases T:j=l
    ·rw[if_pos T];exact le_refl _
    ·rw[if_neg T,if_pos (by lia)];have:=r (j - 1) (by lia) (by lia);lia
   ·rw[if_neg d];by_cases g:l<i/\i<=k
    ·rw[if_pos g,if_neg (by lia),if_pos (by lia)];exact hu _ _ (by lia) (by lia)
    ·rw[if_neg g];by_cases T:j=l
     ·rw[if_pos T];exact q i (by lia)
     ·rw[if_neg T];by_cases m:l<j/\j<=k
      ·rw[if_pos m];exact hu _ _ (by lia) (by lia)
      ·rw[if_neg m];exact hu _ _ c (by lia)
  obtain⟨M,k1,k2,s⟩:=Bn f (bubble p k (k - l)) (k+1) (h.bub _ _) (by lia) (by lia) U;exact⟨M,o.bind k1,k2,s⟩
theorem Fa (hn:1<=n):∃p,Run n (qu rk) (kas_sort n) p/\p0 n p/\Up rk p n:=by
 have h0:p0 n (List.toArray (List.range n)):=⟨by simp,by simp⟩;obtain⟨m,p,O,T,c,d,U⟩:=Di (rk:=rk) h0 hn;by_cases e:m<n
 ·have M:max m 1=m:=by lia
  obtain⟨a,k1,k2,b⟩:=Bn (n - max m 1) p (max m 1) T rfl (by lia) (by rw[M];exact U);exact⟨a,O.bind (by dsimp only;rw[if_pos e];exact k1),k2,b⟩
 ·have:m=n:=by lia
  subst this;exact⟨p,O.bind (by dsimp only;rw[if_neg e];exact .ret _),T,U⟩
end
theorem la {a b c:LI}(h:a<b)(k:b<c):a<c:=lt_trans h k
theorem Dj {a b c:LI}(h:¬b<a)(k:¬c<b):¬c<a:=not_lt.mpr (le_trans (not_lt.mp h) (not_lt.mp k))
theorem Fb {a b:LI}(h:¬b<a)(k:¬a<b):a=b:=le_antisymm (not_lt.mp h) (not_lt.mp k)
section
variable {α:Type}(f:α->LI)
def Hd (a b:α):Prop:=¬f b<f a
noncomputable def nG (x:α):List α->List α
 |[]=>[x]
 |y::r=>if f y<f x then y::nG x r else x::y::r
noncomputable def eJ (l:List α):List α:=l.foldr (nG f) []
theorem nH (x:α):∀l,(nG f x l).Perm (x::l)
 |[]=>List.Perm.refl _
 |y::r=>by
  unfold nG;split
  ·exact((nH x r).cons y).trans (List.Perm.swap x y r)
  ·exact List.Perm.refl _
theorem aX:∀l,(eJ f l).Perm l
 |[]=>List.Perm.refl _
 |x::l=>(nH f x (eJ f l)).trans ((aX l).cons x)
theorem ub (x:α):∀l,l.Pairwise (Hd f)->(nG f x l).Pairwise (Hd f)
 |[],_=>by simp[nG]
 |y::r,h=>by
  obtain⟨h1,h2⟩:=pairwise_cons.mp h;unfold nG;split
  ·rename_i hl;refine pairwise_cons.mpr ⟨λz hz=>?_,ub x r h2⟩;rcases vP ((nH f x r).mem_iff.mp hz)with rfl|hz
   ·exact λk=>lt_irrefl _ (la hl k)
   ·exact h1 z hz
  ·rename_i hl;refine pairwise_cons.mpr ⟨λz hz=>?_,h⟩;rcases vP hz with rfl|hz
   ·exact hl
   ·exact Dj hl (h1 z hz)
theorem gf:∀l,(eJ f l).Pairwise (Hd f)
 |[]=>List.Pairwise.nil
 |x::l=>ub f x _ (gf l)
theorem uc:∀(M O:List α),(∀x∈M,∀y∈M,f x=f y->x=y)->M.Perm O->M.Pairwise (Hd f)->O.Pairwise (Hd f)->M=O
 |[],O,_,p,_,_=>(nil_perm.mp p).symm
 |x::T,[],_,p,_,_=>absurd p.length_eq (by simp)
 |x::T,y::c,hi,p,h1,h2=>by
  have hy:y∈x::T:=p.mem_iff.mpr (mX ..);have U:Hd f x y:=by
   rcases vP hy with z|z
   ·rw[z];exact lt_irrefl _
   ·exact(pairwise_cons.mp h1).1 y z
  have d:Hd f y x:=by
   rcases vP (p.mem_iff.mp (mX ..))with z|z
   ·rw[z];exact lt_irrefl _
   ·exact(pairwise_cons.mp h2).1 x z
  have e:x=y:=hi x (mX ..) y hy (Fb U d);subst e;rw[uc T c (λa ha b hb=>hi a (mZ _ ha) b (mZ _ hb)) (List.Perm.cons_inv p) (pairwise_cons.mp h1).2 (pairwise_cons.mp h2).2]
theorem k6 (hi:∀x∈l,∀y∈l,f x=f y->x=y)(p:M.Perm l)(h:M.Pairwise (Hd f)):M=eJ f l :=
 uc f _ _ (λx hx y hy=>hi x (p.mem_iff.mp hx) y (p.mem_iff.mp hy)) (p.trans (aX f l).symm) h (gf f l)
end
theorem lR {α:Type}{p q:α->Bool}(h:∀x,p x=true->q x=true):∀l:List α,(l.filter p).length<=(l.filter q).length
 |[]=>vT _
 |x::l=>by
  have M:=lR h l;rw[filter_cons,filter_cons];by_cases z:p x=true
  ·rw[if_pos z,if_pos (h x z)];simp only[vE];lia
  ·rw[if_neg z];split
   ·simp only[vE];lia
   ·exact M
noncomputable def m7 (cs:List LI)(c:LI):Int:=((cs.filter λx=>decide (x<c)).length:Nat)
theorem Iy {cs:List LI}{a b:LI}(h:¬b<a):m7 cs a<=m7 cs b:=by
 unfold m7;refine Int.ofNat_le.mpr (lR (λx hx=>?_) cs);rw[decide_eq_true_eq]at hx |-;rcases List.le_iff_lt_or_eq.mp (not_lt.mp h)with z|z
 ·exact la hx z
 ·rw[<-z];exact hx
theorem Bo {cs:List LI}{a b:LI}(ha:a∈cs)(h:a<b):m7 cs a<m7 cs b:=by
 unfold m7;apply Int.ofNat_lt.mpr;induction cs with
 |nil=>simp at ha
 |cons c cs O=>
  have M:∀l:List LI,(l.filter λx=>decide (x<a)).length<=(l.filter λx=>decide (x<b)).length:=λl=>
   lR (λx hx=>by rw[decide_eq_true_eq]at hx |-;exact la hx h) l
  rw[filter_cons,filter_cons];rcases vP ha with rfl|ha
  ·rw[if_neg (by simp[lt_irrefl]),if_pos (by simpa using h)];have:=M cs;simp only[vE];lia
  ·have:=O ha;by_cases z:c<a
   ·rw[if_pos (by simpa using z),if_pos (by simpa using la z h)];simp only[vE];lia
   ·rw[if_neg (by simpa using z)];split
    ·simp only[vE];lia
    ·exact this
theorem yy (ha:a∈cs):decide (m7 cs a<m7 cs b)=decide (a<b):=by
 by_cases h:a<b
 ·rw[xq h,xq (Bo ha h)]
 ·rw[DP h,DP];have:=Iy (cs:=cs) h;lia
inductive At where
 |i (n:Int)
 |s (z:Str)
noncomputable def Mi:At->LI
 |.i n=>[n]
 |.s z=>z.cps.toList.map (λ(c:Nat)=>(c:Int)+1)++[0]
noncomputable def cM (xs:List At):LI:=xs.flatMap Mi
noncomputable def bq:List At->List At->Option Bool
 |[],ys=>some (!ys.isEmpty)
 |_::_,[]=>some false
 |.i a::xs,.i b::ys=>if a=b then bq xs ys else some (decide (a<b))
 |.s a::xs,.s b::ys=>if a=b then bq xs ys else some (decide (a.cps.toList<b.cps.toList))
 |_::_,_::_=>none
theorem wD:∀(a b:LN)(r M:LI),(a.map (λ(c:Nat)=>(c:Int)+1)++0::r)<(b.map (λ(c:Nat)=>(c:Int)+1)++0::M)↔a<b\/(a=b/\r<M)
 |[],[],r,M=>by simp[cons_lt_cons_iff]
 |[],y::b,r,M=>by simp[cons_lt_cons_iff]
 |x::a,[],r,M=>by simp[cons_lt_cons_iff];lia
 |x::a,y::b,r,M=>by
  rw[uY,uY,cons_append,cons_append,cons_lt_cons_iff,wD a b r M,cons_lt_cons_iff];constructor
  ·rintro (h|⟨h,k|⟨k1,k2⟩⟩)
   ·exact .inl (.inl (by lia))
   ·exact .inl (.inr ⟨by lia,k⟩)
   ·exact .inr ⟨by rw[k1,show x=y by lia],k2⟩
  ·rintro ((h|⟨h,k⟩)|⟨h,k⟩)
   ·exact .inl (by lia)
   ·exact .inr ⟨by lia,.inl k⟩
   ·injection h with h1 h2;exact .inr ⟨by lia,.inr ⟨h2,k⟩⟩
theorem jt (x:At)(xs:List At):cM (x::xs)=Mi x++cM xs:=by unfold cM;rw[uO]
theorem Mj (x:At):Mi x≠[]:=by cases x<;>simp[Mi]
theorem Bp {a b:Str}:a.cps.toList=b.cps.toList↔a=b:=by
 constructor
 ·intro h;obtain⟨a⟩:=a;obtain⟨b⟩:=b;have:a=b:=toList_inj.mp h;rw[this]
 ·rintro rfl;rfl
theorem p9:∀(xs ys:List At)(b:Bool),bq xs ys=some b->b=decide (cM xs<cM ys)
 |[],[],b,h=>by simp[bq]at h;subst h;simp[cM]
 |[],y::ys,b,h=>by
  simp[bq]at h;subst h;rw[jt];cases e:Mi y with
  |nil=>exact absurd e (Mj y)
  |cons c cs=>simp[cM]
 |x::xs,[],b,h=>by simp[bq]at h;subst h;simp[cM]
 |.i a::xs,.i c::ys,b,h=>by
  rw[bq]at h;rw[jt,jt];show b=decide (a::cM xs<c::cM ys);split at h
  ·rename_i e;subst e;rw[p9 xs ys b h];exact decide_eq_decide.mpr (by rw[cons_lt_cons_iff];simp)
  ·rename_i e;cases h
   exact decide_eq_decide.mpr (by rw[cons_lt_cons_iff];simp[e])
 |.s a::xs,.s c::ys,b,h=>by
  rw[bq]at h;rw[jt,jt];have M:∀(z:Str)(r:LI),Mi (.s z)++r=z.cps.toList.map (λ(c:Nat)=>(c:Int)+1)++0::r:=λz r=>by simp[Mi]
  rw[M,M];split at h
  ·rename_i e;subst e;rw[p9 xs ys b h];exact decide_eq_decide.mpr (by rw[wD];exact⟨λz=>.inr ⟨rfl,z⟩,λz=>z.elim (λq=>absurd q (lt_irrefl _)) (·.2)⟩)
  ·rename_i e;cases h
   exact decide_eq_decide.mpr (by rw[wD,Bp];exact⟨.inl,λz=>z.elim id λq=>absurd q.1 e⟩)
 |.i _::_,.s _::_,b,h=>by simp[bq]at h
 |.s _::_,.i _::_,b,h=>by simp[bq]at h
theorem Ai:∀(xs ys:List At),bq xs ys=some false->bq ys xs=some false->xs=ys
 |[],[],_,_=>rfl
 |[],y::ys,h,_=>by simp[bq]at h
 |x::xs,[],_,h=>by simp[bq]at h
 |.i a::xs,.i c::ys,h,k=>by
  rw[bq]at h k;by_cases e:a=c
  ·subst e;rw[if_pos rfl]at h k;rw[Ai xs ys h k]
  ·rw[if_neg e]at h;rw[if_neg (Ne.symm e)]at k;simp at h k;lia
 |.s a::xs,.s c::ys,h,k=>by
  rw[bq]at h k;by_cases e:a=c
  ·subst e;rw[if_pos rfl]at h k;rw[Ai xs ys h k]
  ·rw[if_neg e]at h;rw[if_neg (Ne.symm e)]at k;simp only[Option.some.injEq,decide_eq_false_iff_not]at h k;exact absurd (Bp.mp (le_antisymm (not_lt.mp k) (not_lt.mp h))) e
 |.i _::_,.s _::_,h,_=>by simp[bq]at h
 |.s _::_,.i _::_,h,_=>by simp[bq]at h
noncomputable def eK (ks:List (List At)):Bool:=ks.all λx=>ks.all λy=>(bq x y).isSome
theorem gW (h:eK ks=true)(hx:x∈ks)(hy:y∈ks):bq x y=some (decide (cM x<cM y)):=by
 have:=uR (uR h x hx) y hy;obtain⟨b,e⟩:=uU this;rw[e,p9 _ _ _ e]
theorem nI (h:eK ks=true)(hx:x∈ks)(hy:y∈ks)(e:cM x=cM y):x=y:=by
 refine Ai _ _ ?_ ?_
 ·rw[gW h hx hy,e,DP (lt_irrefl _)]
 ·rw[gW h hy hx,e,DP (lt_irrefl _)]
def zB:At->Value->Prop
 |.i n,v=>∃t,v=.int n t
 |.s z,v=>∃t,v=.str z t
def ia (h:Heap)(xs:List At)(v:Value):Prop:=∃a o its n,v=.ref a/\h.get? a=some o/\o.cls=.type "tuple"/\o.data=.seq its n/\Paired zB xs its.toList
noncomputable def fQ (ks:List (List At)):Bool:=ks.all (λx=>match x with|.i _::_=>true|_=>false) || ks.all (λx=>match x with|.s _::_=>true|_=>false)
section
variable {prog:Program}{w:World}{A:Around}{E:QV}{s:Shared}
theorem Fc (xs ys:List At)(its M:LU)(i:Nat)(T:Paired zB xs its)(U:Paired zB ys M)(h:bq xs ys=some b)(hf:fin=decide (xs.length<ys.length))(q:Q b s):KatLex prog w A true fin Q (its.zip M) i s:=by
 induction T generalizing ys M i with
 |nil=>
  rw[List.zip_nil_left];refine kat_nil ?_;cases ys with
  |nil=>simp[bq]at h;subst h;rw[hf];exact q
  |cons y ys=>simp[bq]at h;subst h;rw[hf];simpa using q
 |@cons x v xs its T f d=>
  cases U with
  |nil=>
   rw[List.zip_nil_right];refine kat_nil ?_;simp[bq]at h;subst h;rw[hf];simpa using q
  |@cons y u ys M U O=>
   cases x with
   |i a=>
    cases y with
    |s _=>simp[bq]at h
    |i c=>
     obtain⟨t,rfl⟩:=T;obtain⟨u,rfl⟩:=U;rw[zip_cons_cons];refine kat_cons (wpAny_eqBool_int ?_);rw[bq]at h;by_cases e:a=c
     ·rw[if_pos e]at h;rw[show(a == c)=true by simp[e]];exact kat_yes (d ys M (i+1) O h (by rw[hf];simp))
     ·rw[if_neg e]at h;cases h
      rw[show(a == c)=false by simp[e]];refine kat_no ?_;cases hb:(true && i == 0) with
      |true=>exact oneLt_int q
      |false=>exact kat_one _ _ (PyProof.Rows.lt_int q)
   |s a=>
    cases y with
    |i _=>simp[bq]at h
    |s c=>
     obtain⟨t,rfl⟩:=T;obtain⟨u,rfl⟩:=U;rw[zip_cons_cons];refine kat_cons (wpAny_eqBool_str ?_);rw[bq]at h;by_cases e:a=c
     ·rw[if_pos e]at h;rw[xq e];exact kat_yes (d ys M (i+1) O h (by rw[hf];simp))
     ·rw[if_neg e]at h;cases h
      rw[DP e];refine kat_no ?_;cases hb:(true && i == 0) with
      |true=>exact oneLt_str q
      |false=>exact kat_one _ _ (PySem.P.lt_str q)
theorem gg {α T:Type}{F:α->T->Prop}:∀ {M:List α}{O:List T},Paired F M O->M.length=O.length
 |_,_,.nil=>rfl
 |_,_,.cons _ t=>by simp[gg t]
theorem Mk {Q:Bool->Shared->Prop}{xs ys:List At}{x y:Value}{b:Bool}(hx:ia s.heap xs x)(hy:ia s.heap ys y)(h:bq xs ys=some b)(q:Q b s):wpAny (model prog w) A (keyLt' (tuples' true) x y) Q E s:=by
 obtain⟨a,o,its,n,rfl,U,_,hd,r⟩:=hx;obtain⟨c,o',its',d,rfl,M,_,O,T⟩:=hy;refine kat_lt U hd M O (Fc xs ys _ _ 0 r T h ?_ q);rw[<-vG,<-vG,gg r,gg T]
theorem oA:∀ {ks:List (List At)}{vs:LU},Paired (ia h) ks vs->(∀k∈ks,k≠[])->∃fs,KatTups h vs fs/\fs.length=ks.length/\∀v∈fs,∃k r,(k::r)∈ks/\zB k v
 |_,_,.nil,_=>⟨[],trivial,rfl,by simp⟩
 |k::ks,_,.cons x t,M=>by
  obtain⟨fs,h1,h2,h3⟩:=oA t λz hz=>M z (mZ _ hz);obtain⟨a,o,its,n,rfl,U,hc,hd,r⟩:=x;cases O:its.toList with
  |nil=>
   rw[O]at r;cases r
   exact absurd rfl (M [] (mX ..))
  |cons v vs=>
   rw[O]at r;obtain⟨p,T⟩:∃p,its[0]? = some v:=⟨(),by rw[<-getElem?_toList,O];rfl⟩;cases r with
   |cons q e=>
    rename_i k0 b;refine⟨v::fs,KatTups.cons U hc hd T h1,by simp[h2],λu hu=>?_⟩;rcases vP hu with rfl|hu
    ·exact⟨k0,b,mX ..,q⟩
    ·obtain⟨k1,T,c,d⟩:=h3 u hu;exact⟨k1,T,mZ _ c,d⟩
theorem Fd (hp:Paired (ia s.heap) ks vs)(hf:fQ ks=true)(hn:0<ks.length)(q:Q (tuples' true) s):wpAny (model prog w) A (keyKind' vs.toArray) Q E s:=by
 have M:∀k∈ks,k≠[]:=λk hk z=>by
  subst z;unfold fQ at hf;rw[or_eq_true]at hf;rcases hf with hf|hf
  ·have:=uR hf [] hk;simp at this
  ·have:=uR hf [] hk;simp at this
 obtain⟨fs,h1,h2,h3⟩:=oA hp M;unfold fQ at hf;rw[or_eq_true]at hf;rcases hf with hf|hf
 ·refine kat_kind (T:=.type "int") h1 (by lia) (λv hv=>?_) (by decide) q;obtain⟨k,r,m,z⟩:=h3 v hv;have:=uR hf _ m;cases k with
  |i n=>obtain⟨t,rfl⟩:=z;exact .now
  |s O=>simp at this
 ·refine kat_kind (T:=.type "str") h1 (by lia) (λv hv=>?_) (by decide) q;obtain⟨k,r,m,z⟩:=h3 v hv;have:=uR hf _ m;cases k with
  |s O=>obtain⟨t,rfl⟩:=z;exact .now
  |i n=>simp at this
end
section
variable {prog:Program}{w:World}{A:Around}{E:QV}{s:Shared}
theorem fz {α T:Type}{F:α->T->Prop}(d:α)(e:T):∀ {M:List α}{O:List T},Paired F M O->∀ {i:Nat},i<M.length->F (M.getD i d) (O.getD i e)
 |_,_,.cons r t,0,_=>r
 |_,_,.cons r t,i+1,h=>by
  simp only[getD_cons_succ];exact fz d e t (by simpa using h)
 |_,_,.nil,i,h=>by simp at h
def He (ks:List (List At))(i:Nat):Int:=m7 (ks.map cM) (cM (ks.getD i []))
theorem Iz {ks:List (List At)}{vs:LU}(hc:eK ks=true)(hp:Paired (ia s.heap) ks vs):∀(i j:Nat)(C:Bool->Shared->Prop)(s1:Shared),i<ks.length->j<ks.length->s1=s->(∀s',s'=s->C (qu (He ks) i j) s')->kas_ask prog w A (tuples' true) vs i j C s1:=by
 intro i j C s1 hi hj e O;subst e;unfold kas_ask;have M:ks.getD i []∈ks:=by rw[vF,vU hi];exact getElem_mem hi
 have T:ks.getD j []∈ks:=by rw[vF,vU hj];exact getElem_mem hj
 refine Mk (fz [] Value.none hp hi) (fz [] Value.none hp hj) (gW hc M T) ?_;have:=O s1 rfl;unfold qu He at this;rw[yy (uS ⟨_,M,rfl⟩)]at this;exact this
end
end DL
namespace DL
open PySem PySem.Spec PySem.W PyProof.Rows L2
noncomputable def Kr:D->Option At
 |.int n=>some (.i n)
 |.str z=>some (.s z)
 |_=>none
def jJ:LD->Option (List At)
 |[]=>some []
 |d::ds=>(Kr d).bind λa=>(jJ ds).map (a :: ·)
def yz:D->Option (List At)
 |.tup es=>jJ es
 |_=>none
def dJ:LD->Option (List (List At))
 |[]=>some []
 |d::ds=>(yz d).bind λa=>(dJ ds).map (a :: ·)
def qx (ns:LI):LI:=eJ (λn=>[n]) ns
theorem lb:∀ {ds:LD}{ks:List (List At)},dJ ds=some ks->ks.length=ds.length
 |[],_,h=>by simp only[dJ]at h;cases h;rfl
 |d::ds,_,h=>by
  simp only[dJ]at h;obtain⟨a,h1,h⟩:=oX h;obtain⟨r,h2,h⟩:=oY h;subst h;simp[lb h2]
theorem ud:∀ {ds:LD}{ks:List (List At)},dJ ds=some ks->∀ {i:Nat},i<ds.length->yz (ds.getD i .non)=some (ks.getD i [])
 |[],_,h,i,hi=>by simp at hi
 |d::ds,_,h,0,hi=>by
  simp only[dJ]at h;obtain⟨a,h1,h⟩:=oX h;obtain⟨r,h2,h⟩:=oY h;subst h;exact h1
 |d::ds,_,h,i+1,hi=>by
  simp only[dJ]at h;obtain⟨a,h1,h⟩:=oX h;obtain⟨r,h2,h⟩:=oY h;subst h;simp only[getD_cons_succ];exact ud h2 (by simpa using hi)
section
variable {X:Cx}
theorem y0 {K:Frag}{B:Hp}:∀ {vs:LV}{es:LD}{k:List At}{its:LU},bj vs its->IsL K B vs es->jJ es=some k->Paired zB k its
 |_,_,_,_,.nil,.nil,h=>by simp only[jJ]at h;cases h;exact .nil
 |_,_,_,_,.cons r M,.cons i O,h=>by
  simp only[jJ]at h;obtain⟨a,h1,h⟩:=oX h;obtain⟨t,h2,h⟩:=oY h;subst h;refine .cons ?_ (y0 M O h2);cases i<;>simp only[Kr]at h1<;>cases h1
  ·exact r
  ·exact r
theorem pA {ae:AO}{σ:St}{H:Hp}{s:Shared}(I:Inv X ae σ H s):∀ {ys:LV}{ds:LD}{ks:List (List At)}{its:LU},bj ys its->IsL X.K H ys ds->dJ ds=some ks->Paired (ia s.heap) ks its
 |_,_,_,_,.nil,.nil,h=>by simp only[dJ]at h;cases h;exact .nil
 |_,_,_,_,.cons r M,.cons i O,h=>by
  simp only[dJ]at h;obtain⟨a,h1,h⟩:=oX h;obtain⟨t,h2,h⟩:=oY h;subst h;refine .cons ?_ (pA I M O h2);cases i<;>simp only[yz]at h1<;>try (cases h1;done)
  rename_i hq hl;cases r
  obtain⟨its',T,⟨o,U,hc,n,hd⟩,_⟩:=I.tuple hq;exact⟨_,o,_,n,rfl,U,hc,hd,by simpa using y0 T hl h1⟩
theorem Bq {K:Frag}{B:Hp}:∀ {vs:LV}{ds:LD},IsL K B vs ds->∀ {i:Nat},i<ds.length->Is K B (vs.getD i .non) (ds.getD i .non)
 |_,_,.cons h _,0,_=>h
 |_,_,.cons _ t,i+1,hi=>by
  simp only[getD_cons_succ];exact Bq t (by simpa using hi)
 |_,_,.nil,i,hi=>by simp at hi
theorem y4:∀ {vs:LV}{us:LU},bj vs us->∀ {i:Nat},i<vs.length->aZ (vs.getD i .non) (us.getD i Value.none)
 |_,_,.cons h _,0,_=>h
 |_,_,.cons _ t,i+1,hi=>by
  simp only[getD_cons_succ];exact y4 t (by simpa using hi)
 |_,_,.nil,i,hi=>by simp at hi
theorem y6 {K:Frag}{B:Hp}{vs:LV}{ds:LD}(h:IsL K B vs ds):∀(l:LN),(∀i∈l,i<ds.length)->IsL K B (l.map λi=>vs.getD i .non) (l.map λi=>ds.getD i .non)
 |[],_=>.nil
 |i::l,hl=>.cons (Bq h (hl i (mX ..))) (y6 h l λj hj=>hl j (mZ _ hj))
theorem ue (h:bj vs us):∀(l:LN),(∀i∈l,i<vs.length)->bj (l.map λi=>vs.getD i .non) (l.map λi=>us.getD i Value.none)
 |[],_=>.nil
 |i::l,hl=>.cons (y4 h (hl i (mX ..))) (ue h l λj hj=>hl j (mZ _ hj))
end
section
variable {X:Cx}
theorem jk:∀ {its:LU}{zs:LI},IntsAre its zs->bj (zs.map V.int) its
 |_,_,.nil=>.nil
 |_,_,.cons x t r=>.cons ⟨t,rfl⟩ (jk r)
theorem qy {K:Frag}{N:Hp}:∀(zs:LI),IsL K N (zs.map V.int) (zs.map D.int)
 |[]=>.nil
 |z::zs=>.cons (.int z) (qy zs)
theorem Fe (p:M.Perm l)(h:M.Pairwise (·<=·)):M=qx l:=by
 refine k6 _ (λx _ y _ e=>by injection e) p (h.imp λ{a b} O=>?_);unfold Hd;intro z;rw[cons_lt_cons_iff]at z;rcases z with z|⟨_,z⟩
 ·lia
 ·exact lt_irrefl _ z
end
end DL
namespace DL
open PySem PySem.Spec PyProof.Rows L2
section
variable {prog:Program}{w:World}{A:Around}{E:QV}{s:Shared}
theorem Aj {a:Addr}{o:Obj}{its:AV}{n:Nat}{x:Value}{e:Value->Bool}{j:Nat}{P:PySem.Fin->Shared->Prop}(b:s.heap.get? a=some o)(hd:o.data=.seq its n)
  (he:∀y∈its,MeetsSeq.EqGives y x (e y)) (hj:j<its.size) (DR:e its[j]=true) (O:∀m (hm:m<its.size),m<j->e its[m]=false)
  (h:P (.done (.ret (.int j s.toks))) { s with toks:=s.toks+1 }):wpAny (model prog w) A (Builtin.«tuple.index» ⟨[.ref a,x],[]⟩) P E s:=by
 show wpAny _ _ (Builtin.Tuple.tupleItemsOf (.ref a)>>=_) _ _ s;refine wX (wpAny_tupleItemsOf b hd ?_);dsimp only;refine wX (wY (wX (wY (wX ?_))));rw[Std.Legacy.Range.forIn_eq_forIn_range'];refine wpAny_forIn_list _
  (λaH r s'=>r.1=none/\s'=s/\∃i,i<=j/\aH=List.range' i (its.size - i))
  _ ?_ ?_ _ _ ⟨rfl,rfl,0,uN _,?_⟩
 ·rintro k aH r s' ⟨hr,rfl,i,hi,hz⟩;have M:i<its.size:=by lia
  obtain⟨m,hm⟩:∃m,its.size - i=m+1:=⟨its.size - i - 1,by lia⟩;rw[hm,List.range'_succ]at hz;injection hz with T c;have T:=T.symm;subst T;subst c;have d:its[i]? = some its[i]:=by simp[M]
  simp only[d];refine wX (he _ (Array.getElem_mem M) prog w _ _ _ _ ?_);by_cases U:i=j
  ·subst U;rw[DR];simp only[if_true];refine wX ?_;show wpAny _ _ (mkInt (i:Int)>>=λv=>ret v) _ _ _;exact wX (wpAny_mkInt (wY (wY (wY h))))
  ·rw[O i M (by lia)];simp only[uV,if_false];exact wY ⟨rfl,rfl,i+1,by lia,by rw[show its.size - (i+1)=m by lia]⟩
 ·rintro⟨f,g⟩ s' ⟨hr,rfl,i,hi,hz⟩;exfalso;have:(List.range' i (its.size - i)).length=0:=by rw[<-hz];rfl
  rw[List.length_range']at this;lia
 ·simp
end
theorem CRows.findT {K:Frag}{P:Params}(y:Str){ds:LD}:∀ {es:List DictEntry}{aL:List (Str×D)},CRows K P es aL->aL.lookup y=some (.tup ds) ->
  ∃e a its n oi,es.find? (λe=>Value.isStrOf y e.key)=some e/\e.val=.ref a/\K.lookup a=some ⟨.type "tuple",none,.seq its n,oi⟩/\jG its.toList ds=true
 |_,_,.nil,h=>by simp at h
 |_,_,.tup (x:=x) (t:=t) (a:=a) (ds:=T) hh l f tl,h=>by
  by_cases e:y=x
  ·subst e;rw[lookup_cons_self]at h;cases h
   rw[vC]at f;exact⟨_,a,_,_,_,List.find?_cons_of_pos (by simp[Value.isStrOf]),rfl,l,f.2⟩
  ·rw[lookup_cons,beq_eq_false_iff_ne.mpr e]at h;have M:Value.isStrOf y (Value.str x t)=false:=by
    rw[eq_false_iff];intro z;obtain⟨t',q⟩:=Value.isStrOf_shape z;injection q with O;exact e O.symm
   simp only[find?_cons,M];exact tl.findT y h
 |_,_,.flat (x:=x) (t:=t) (u:=u) (d:=d) hh f tl,h=>by
  by_cases e:y=x
  ·subst e;rw[lookup_cons_self]at h;cases h
   cases u<;>simp[wt]at f
  ·rw[lookup_cons,beq_eq_false_iff_ne.mpr e]at h;have M:Value.isStrOf y (Value.str x t)=false:=by
    rw[eq_false_iff];intro z;obtain⟨t',q⟩:=Value.isStrOf_shape z;injection q with O;exact e O.symm
   simp only[find?_cons,M];exact tl.findT y h
section
variable {X:Cx}{b e:Expr}{pos:Pos}{x:Str}{p:Pos}
def Sa (K:Frag):V->LV->Hp->VK->Prop:=λx xs H Q=>∃(a:Addr)(o:Obj)(its:AV)(n:Nat)(zs:LS)(y:Str),x=.ref a/\xs=[.str y]/\K.lookup a=some o/\o.cls=.type "tuple"/\o.data=.seq its n/\StrsAre its.toList zs/\zs.findIdx (· == y)<zs.length/\Q (.int (zs.findIdx (· == y):Nat)) H
noncomputable def Ks (y:Str):Value->Bool
 |.str z _=>z == y
 |_=>false
theorem Br:∀ {its:LU}{zs:LS},StrsAre its zs->∀(i:Nat)(hi:i<its.length),∃(h:i<zs.length)(t:Tok),its[i]=.str zs[i] t
 |_,_,.cons z t h,0,_=>⟨by simp,t,rfl⟩
 |_,_,.cons z t h,i+1,hi=>by
  obtain⟨h',t',e⟩:=Br h i (by simpa using hi);exact⟨by simpa using h',t',by simpa using e⟩
 |_,_,.nil,i,hi=>by simp at hi
theorem y7:∀ {its:LU}{zs:LS},StrsAre its zs->its.length=zs.length
 |_,_,.nil=>rfl
 |_,_,.cons _ _ h=>by rw[vE,vE,y7 h]
theorem Ff:HC X "tuple.index" (Sa X.K):=by
 intro ae s σ H x xs v us Q I U c h;obtain⟨a,o,its,n,zs,y,rfl,rfl,d,hc,hd,hz,hk,q⟩:=h;cases U
 obtain⟨u,rfl,⟨t,rfl⟩⟩:=c.one;have T:=I.kIn a o d;have hl:=y7 hz;rw[vG]at hl;have at':∀(i:Nat)(hi:i<its.size),∃(h:i<zs.length)(t:Tok),its[i]=.str zs[i] t:=λi hi=>by
  obtain⟨h',t',e⟩:=Br hz i (by simpa using hi);exact⟨h',t',by simpa using e⟩
 refine wpAny_call_entry PySem.F.slot_tuple_index ⟨o,T,hc⟩ PySem.F.entry_tuple_index (Aj (e:=Ks y) (j:=zs.findIdx (· == y)) T hd (λz hm=>?_) (by lia) ?_ (λm hm O=>?_) ⟨_,rfl,.int (zs.findIdx (· == y):Nat),H,I.tok _,⟨_,rfl⟩,q⟩) (PySem.F.args_tuple_index_2 _ _)
 ·obtain⟨i,hi,rfl⟩:=Array.mem_iff_getElem.mp hm;obtain⟨_,t',M⟩:=at' i hi;rw[M];exact eqGives_str _ _ _ _
 ·obtain⟨_,t',M⟩:=at' (zs.findIdx (· == y)) (by lia);rw[M];exact List.findIdx_getElem (p:=(· == y)) (w:=hk)
 ·obtain⟨_,t',M⟩:=at' m hm;rw[M];have:=List.not_of_lt_findIdx (p:=(· == y)) (xs:=zs) O;simpa [Ks]using this
@[simp] def pq (aL:List (Str×D)):D->D->OB
 |.str y,.str z=>match aL.lookup y with
  |some (.tup ds)=>(iO ds).bind λzs=>if zs.findIdx (· == z)<zs.length then some (.int (zs.findIdx (· == z):Nat),false)else none
  |_=>none
 |_,_=>none
theorem IA {aL:List (Str×D)}{f g:FE}{dI cL:Pos}(h:∃d,X.mg x=some (.ref d)/\tR X.K X.w.params d aL)(hb:JE X b f)(he:JE X e g)(C:Gl X x:=by rfl)(E:(x == ("__debug__" : Str))=false:=by decide)(hs:vn b:=by intro _ _;rfl)
  (O:attributeBase (.Subscript (.Name x p) b pos) "index" X.env (eval (.Subscript (.Name x p) b pos) X.env)=eval (.Subscript (.Name x p) b pos) X.env:=by rfl)
  (G:((backTo cL (starEach [e] X.env)).all (λx=>!x.1) && (backToKw cL (keywordEach [] X.env)).all (λx=>x.1.isSome)
   && decide ([e].length+([]:List Keyword).length+(if([]:List Keyword).isEmpty then 0 else 1)<30))=true:=by rfl)
  (U:(dI.endLine == cL.line)=true:=by rfl) (m:starEach [e] X.env=[(false,eval e X.env)]:=by rfl):
  JE X (.Call (.Attribute (.Subscript (.Name x p) b pos) "index" dI) [e] [] cL) (f2 (pq aL) f g):=by
 obtain⟨d,hm,cd⟩:=h;have J:Ha X (λx y H Q=>∃z ds,x=.ref d/\y=.str z/\aL.lookup z=some (.tup ds)/\∀a its n oi,X.K.lookup a=some ⟨.type "tuple",none,.seq its n,oi⟩->jG its.toList ds=true->Q (.ref a) H):=by
  intro c i ae s σ H x y v u Q I L N q hs;obtain⟨z,ds,rfl,rfl,j,q⟩:=q;cases L
  obtain⟨t,rfl⟩:=N;obtain⟨es,n,l,r,sm⟩:=cd;have o:=PySem.W.mapOf_K (prog:=X.prog) (w:=X.w) I.kIn l r.lit;obtain⟨en,a,its,n',oi,P,e2,R,S⟩:=r.findT z j;have V:findBy Value.isStrOf es z=some (.ref a):=by
   unfold findBy;obtain⟨es⟩:=es;rw[List.find?_toArray,P,<-e2];rfl
  exact tail_any o.typeIs slot_dict_getitem.lookup (wpAny_getItem_of (strKind_is X.prog X.w z t) o V ⟨.ref a,H,I.tok _,rfl,q a _ _ _ R S⟩) hs
 refine PE.to (AL (T:="tuple") PySem.F.plainAttrs_tuple PySem.F.slot_tuple_index PySem.F.type_tuple_index Ff (Kh J (AF (v:=.ref d) C hm rfl E) hb hs) (cO he gI m) O G U m rfl) λσ H Q q=>?_;obtain⟨B,ρ,d',bb,Y,r,M,q⟩:=q;obtain⟨Z,ex,M⟩:=oX M;obtain⟨y1,ey,M⟩:=oX M;obtain⟨xd,xb⟩:=Z;obtain⟨yd,yb⟩:=y1;cases xd with
 |str z=>
  cases yd with
  |str y=>
   refine⟨B,ρ,_,xb,Y,r,ex,λv H1 N1 k i1 _=>?_⟩;cases i1
   simp only[pq]at M;split at M
   ·rename_i ds j;obtain⟨zs,ez,M⟩:=oX M;split at M
    ·rename_i hk;cases M
     refine⟨z,ds,rfl,rfl,j,λa its n oi l fl=>⟨.inr (.inl ⟨rfl,_,l,rfl,rfl⟩),N1,ρ,_,yb,k.nh,r.mono k.bn,ey,λv2 H2 N2 A i2 _=>?_⟩⟩;cases i2
     obtain⟨vs,rv,iv⟩:=jH (K:=X.K) fl;exact⟨a,_,its,n,zs,y,rfl,rfl,l,rfl,rfl,ky rv (iv N2) ez,hk,(q.into (k.trans A)).one A.nh (.int _)⟩
    ·cases M
   ·cases M
  |_=>simp[pq]at M
 |_=>simp[pq]at M
end
open PySem.W (tabIn tabObj CodeHd kla_fn kla_obj kla_eval kla_makeFunction kla_makeFunctionHit kla_callFunE kla_codeExpr envX)
def OS (K:Frag)(c P:Addr):Prop:=∃o vs O a M tg U T b,K.lookup c=some o/\o.cls=.type "code"/\o.data=.fields vs/\vs[11]? = some (.ref P)/\vs.getD 11 .none=.ref P/\vs.getD 18 .none=.str O a /\
 vs.getD 7 .none=.int M tg/\vs.getD 9 .none=.bool U/\vs.getD 10 .none=.int T b/\c≠P
def Ak (K:Frag)(x:Str):Prop:=∃c P,tabIn K x=some (c,P)/\OS K c P
def Fg (H:Hp)(f:Addr)(q:Str)(params:Arguments)(M:Expr)(scope:Scope)(cl:List (Str×Addr)):Prop :=
 ∃pm c O u oc T vs t,H f=some (.frz (kla_obj "<lambda>" q params M scope cl pm c O) u)/\H c=some (.frz oc T)/\oc.data=.fields vs/\vs[1]? = some (.str q t)
theorem Fg.mono (h:Fg H f q params T scope cl)(e:aT H H'):Fg H' f q params T scope cl :=
 let ⟨pm,c,M,u,oc,O,vs,t,h1,h2,h3,h4⟩:=h;⟨pm,c,M,u,oc,O,vs,t,e _ _ h1,e _ _ h2,h3,h4⟩
theorem lam_mk {K:Frag}{x:Str}{f c P:Addr}{oc:Value}{od i:Option Addr}{oi U:Array (Option Value)}{fd:FuncData}{vs:AV}{O:Str}{a tg b:Tok}{M T:Int}{d:Bool}(j:nsIn K mainGlobals x=some (some (.ref f)))(e2:K.lookup f=some ⟨oc,od,.func fd,oi⟩)
  (k:fd.code=.ref c) (e:K.lookup c=some ⟨.type "code",i,.fields vs,U⟩) (g:vs[11]? = some (.ref P)) (l:vs.getD 11 .none=.ref P) (m:vs.getD 18 .none=.str O a) (n:vs.getD 7 .none=.int M tg) (o:vs.getD 9 .none=.bool d) (p:vs.getD 10 .none=.int T b) (h:(c == P)=false):Ak K x :=
 ⟨c,P,tab_yes j e2 k e g,_,vs,O,a,M,tg,d,T,b,e,rfl,rfl,g,l,m,n,o,p,λz=>by rw[z]at h;simp at h⟩
theorem Al (l:LU)(h:TriplesOk l)(e:codeAmong T (l++[rawInt a,rawInt b,c])=some U):codeAmong T l=some U\/U=c:=by
 fun_induction TriplesOk l with
 |case1=>
  simp only[nil_append,rawInt,codeAmong]at e;split at e
  ·cases e;exact .inr rfl
  ·cases e
 |case2 O t b' u x aH M=>
  simp only[cons_append,codeAmong]at e |-;split at e
  ·rename_i hc;rw[if_pos hc];exact .inl e
  ·rename_i hc;rw[if_neg hc];exact M h e
 |case3 l h1 h2=>exact h.elim
section
variable {X:Cx}{ae:AO}{σ:St}{H:Hp}{s:Shared}
theorem Fh 
  (hx:x∈mr) (L:Ak X.K x) (hc:∀c P,tabIn X.K x=some (c,P)->X.env.code=.ref c) (hq:X.env.qual ++ "<lambda>" = pZ x) (Td:defaultsOf params X.env=([],[])) (G:closureFor scope X.env=pure cl)
  (I:Inv X ae σ H s) (tb:Tb X.K H) (k:∀f H' s',Inv X ae σ H' s'->aT H H'->Fg H' f (pZ x) params body scope cl->Q (.ref f) s'):
  wq X (eval (.Lambda params body scope pos) X.env) Q E s:=by
 refine kla_eval Td ?_;rw[hq];obtain⟨c,P,J,o,vs,Te,tf,Qg,tg,Rh,Tf,tt,lk,ck⟩:=L;have O:=hc c P J;have i:=tb x hx c P J;obtain⟨ps,e,j,co⟩:=I.hok P _ i;have C:CodeHd s.heap c P:=⟨o,vs,Te,tf,Qg,tg,Rh,Tf,tt,I.kIn c o lk,ck⟩;have N:s.heap.Ns mainGlobals X.mg:=I.mod.glob.keeps I.bk;have l:∀b,H b=none->b≠P:=λb n z=>by rw[z,i]at n;cases n
 have XO:mainGlobals≠P:=by
  obtain⟨og,_,_,A,_⟩:=I.mod.glob;exact l _ (I.bs _ _ A).2
 have hb:s.heap.BuiltinsAt X.mg P:=by
  obtain⟨bm,ob,b1,b2,b3,b4,b5,B⟩:=I.mod.bmain;refine⟨bm,ob,b1,b2,λz=>?_,l _ (I.bs _ _ b3).2,I.bk _ _ b3,b4,b5,B⟩;obtain⟨og,es,ep,A,dg,_⟩:=I.mod.glob;rw[z,A]at b3;cases b3;rw[dg]at B;cases B
 cases hf:codeAmong pos ps.toList with
 |some cv=>
  obtain⟨M,oc,u,m,t,rfl,hH,hd,hv⟩:=co pos cv hf;refine kla_makeFunctionHit (mg:=X.mg) G I.ok.glob N O C e j hf hb λT h' tk hk hsz=>?_;have hn:H h'.objs.size=none:=I.hok.fresh hsz;have U:aT H (upd H h'.objs.size (.frz (kla_obj "<lambda>" (pZ x) params body scope cl ((X.mg "__name__").getD .none) M T) (.own h'.objs.size))):=λb u q=>by rw[aD (bd q hn)];exact q
  refine k _ _ _ (I.laid (t':=tk) (λb u q=>vZ _ (hk b u q)) hsz (show c7 X.prog X.w _ _ _ (.frz _ (.own h'.objs.size))from ⟨vY _ rfl,_,vY _ rfl⟩)) U ?_;exact⟨_,M,T,_,oc,u,m,t,aA,U _ _ hH,hd,hv⟩
 |none=>
  refine kla_makeFunction (mg:=X.mg) G I.ok.glob N O C e j hf XO hb λM T h' tk hx' hge R a Tg=>?_;obtain⟨c2,oc,m,t,e2,S,hd,hv⟩:=a;cases e2
  have Qh:H M=none:=I.hok.fresh hge;have hsz:s.heap.objs.size<=h'.objs.size:=vR hge (le_of_lt R);have XQ:H h'.objs.size=none:=I.hok.fresh hsz;have XR:M≠h'.objs.size:=vS R;let g:Obj:=kla_obj "<lambda>" (pZ x) params body scope cl ((X.mg "__name__").getD .none) M T;let p:Hp:=upd (upd H M (.frz oc (.own M))) h'.objs.size (.frz g (.own h'.objs.size));have U:aT H p:=λb u q=>by
   show upd _ _ _ b=_;rw[aD (bd q XQ),aD (bd q Qh)];exact q
  have D:p M=some (.frz oc (.own M)):=by show upd _ _ _ M=_;rw[aD XR,aA]
  have keep:∀b u,b≠P->s.heap.get? b=some u->(h'.push g).get? b=some u:=λb u n q=>vZ _ (hx' b u n q);have lt:∀b u,s.heap.get? b=some u->b≠M/\b≠h'.objs.size:=λb u q=>⟨vS (vQ (vX q) hge),vS (vQ (vX q) hsz)⟩;have V:(h'.push g).get? P=some (tabObj (ps++#[rawInt pos.line,rawInt pos.col,.ref M])):=vZ _ Tg;refine k _ p _ (I.un (t':=tk) (h':=h'.push g) ⟨λb u q n _ _=>keep b u (l b n) q,λb u q n _ _=>⟨u.slots,keep b u (l b n) q⟩,λb u q n _=>?_,λb u q _=>?_,λb xs q=>U _ _ q,λb ob u q=>U _ _ q,λb u q=>U _ _ q⟩ λb u q=>?_) U ⟨_,M,T,_,oc,_,m,t,aA,D,hd,hv⟩
  ·show upd _ _ _ b=_;rw[aD (lt b u q).2,aD (lt b u q).1];exact n
  ·by_cases z:b=P
   ·subst z;exact⟨_,V⟩
   ·exact⟨u,keep b u z q⟩
  ·by_cases W:b=h'.objs.size
   ·subst W;have h:some (HO.frz g (.own h'.objs.size))=some u:=by rw[<-q];exact aA.symm
    cases h
    exact⟨vY _ rfl,_,vY _ rfl⟩
   ·by_cases Y:b=M
    ·subst Y;rw[D]at q;cases q;exact⟨vZ _ S,_,vZ _ S⟩
    ·have h:H b=some u:=by
      have:p b=H b:=by show upd _ _ _ b=_;rw[aD W,aD Y]
      rw[<-this];exact q
     by_cases Z:b=P
     ·subst Z;rw[i]at h;cases h;refine⟨_,V,?_,λGL F y=>?_⟩
      ·rw[Array.toList_append];exact TriplesOk_snoc _ _ _ _ j
      ·rw[Array.toList_append]at y;rcases Al _ j y with y|rfl
       ·obtain⟨c3,XS,u3,Ri,t3,y1,y2,y3⟩:=co GL F y;exact⟨c3,XS,u3,Ri,t3,y1,U _ _ y2,y3⟩
       ·exact⟨M,oc,_,m,t,rfl,D,hd,hv⟩
     ·refine(I.hok b u h).stay (λd v Ti r=>keep d v ?_ r) (λd r=>U _ _ r) (λd xs r=>U _ _ r) λd ob v r=>U _ _ r;rcases Ti with rfl|r
      ·exact Z
      ·intro z;rw[z,i]at r;cases r
end
section
variable {P:Program}{w:World}{K:Frag}{mg:SV}{base:Heap}
theorem dB.fnL {x:Str}{st:Stmt}{N ps:LS}{k:Nat}{g:FS}{h:Heap}(F:dB K x st)(X:K.In h)(G:h.Ns mainGlobals mg)(S:FnScope N ps (aP st))
  (O:∀(kV doc pm:Value)(an:Option Addr)(dG ct:Value)(us:LU),us.length=ps.length->bindArgs (fnOf x x (fK st) (cB st) (aP st) .none kV doc pm an dG ct) ⟨us,[]⟩=pure (ps.zip us))
  (hb:∀(f:Addr)(dG:Value)(A:Around)(outer:List PySem.Env)(s:Shared)(H:Hp)(E:XK),(∀c P,tabIn K x=some (c,P)->dG=.ref c)->eQ k (A.deeper (envOfC x (aP st) s.heap.objs.size f dG))->z7 (nu xr P w K mg base N x (aP st) f dG A outer s H E).nox (cB st) g):
  Fn P w K mg base (k+1) x (aS g ps.length (N.length - ps.length)):=by
 obtain⟨f,fd,T,a⟩:=F;have o:=T;obtain⟨oc,od,kV,doc,pm,an,dG,ct,oi,rfl,n,U⟩:=o.ex;have hc:∀c P,tabIn K x=some (c,P)->dG=.ref c:=λc P e=>by
  unfold tabIn at e;simp only[a,n]at e;split at e
  ·rename_i y _;split at e
   ·split at e
    ·cases e;rfl
    ·cases e
   ·cases e
  ·cases e
 have len:∀vs H Q E,Ie K (aS g ps.length (N.length - ps.length)) vs H Q E->vs.length=ps.length:=λvs H Q E h=>by
  obtain⟨B,ds,d,b,j,i,e,q⟩:=h;unfold aS at e;split at e
  ·rename_i hl;rw[i.length];exact hl
  ·cases e
 refine⟨f,_,ps,AI n U S len λA outer s H vs Q E hr h=>⟨_,sP.nox (hb f dG A outer s H E hc hr),?_⟩,mg_of X G a,T.kp,T.binds O⟩;have M:=len vs H Q E h;obtain⟨B,ds,d,b,j,i,e,q⟩:=h;unfold aS at e;rw[if_pos (by rw[<-i.length];exact M)]at e;have l:=qd (N:=N) j.1 j.2 i;rw[M]at l;split at e
 ·rename_i d' b' m;cases e
  exact⟨B,H,_,_,⟨B,l⟩,m,λv H' N' p r t=>q v H' N' p r t⟩
 ·rename_i ρ' m;cases e
  exact⟨B,H,_,_,⟨B,l⟩,m,λu H' ⟨N',s'⟩=>q .non H' N' s'.ext .non (by simp)⟩
 ·cases e
end
inductive lJ (X:Cx)(N':List Str)(scope:Scope)(cl:List (Str×Addr)):Nat->List Nat->Prop where
 |nil {j:Nat}(h:N'.length=j):lJ X N' scope cl j []
 |cons {j i:Nat}{r:List Nat}{x:Str}(h1:N'[j]? = some x) (h2:X.N[i]? = some x) (h3:X.env.kindOf x=some .cell\/X.env.kindOf x=some .free)
   (h4:scope.names.lookup x=some .free) (h5:cl.lookup x=X.env.cells.lookup x) (t:lJ X N' scope cl (j+1) r):lJ X N' scope cl j (i::r)
theorem lJ.len:∀ {j:Nat}{cap:LN},lJ X N' scope cl j cap->N'.length=j+cap.length
 |_,_,.nil h=>by rw[h];rfl
 |j,i::r,.cons _ _ _ _ _ t=>by rw[t.len,vE];lia
theorem lJ.get:∀ {j:Nat}{cap:LN}{k i:Nat},lJ X N' scope cl j cap->cap[k]? = some i->∃x,N'[j+k]? = some x/\X.N[i]? = some x/\(X.env.kindOf x=some .cell\/X.env.kindOf x=some .free) /\
  scope.names.lookup x=some .free/\cl.lookup x=X.env.cells.lookup x
 |_,_,_,_,.nil _,e=>by simp at e
 |j,_,0,_,.cons h1 h2 h3 h4 h5 _,e=>by simp at e;subst e;exact⟨_,h1,h2,h3,h4,h5⟩
 |j,_,k+1,i,.cons _ _ _ _ _ t,e=>by
  obtain⟨x,q,r⟩:=t.get (k:=k) (i:=i) (by simpa using e);exact⟨x,by rw[show j+(k+1)=j+1+k by lia];exact q,r⟩
noncomputable abbrev y8 (X:Cx)(N':LS)(scope:Scope)(cl:List (Str×Addr))(q:Str)(A:Around)(f c:Addr)(s:Shared)(H:Hp):Cx :=
 { X with A:=A.deeper (envX q scope s.heap.objs.size f (.ref c) cl),N:=N',s₀:=s,H₀:=H,env:=envX q scope s.heap.objs.size f (.ref c) cl,outer:=X.stack,stack:=envX q scope s.heap.objs.size f (.ref c) cl::X.stack,ex:=[],fn:=λ_=>false,calm:=true,pn:=[],xe:=λ_ _=>False }
structure LamSc (X:Cx)(scope:Scope)(cl:List (Str×Addr))(y:Str):Prop where
 clos:closureFor scope X.env=pure cl
 nocell:∀z∈scope.names,z.2≠.cell
 kind:scope.kind=.function
 co:scope.isCoroutine=false
 gen:scope.isGenerator=false
 par:scope.names.lookup y=some .local
 sub:∀x c,cl.lookup x=some c->X.env.cells.lookup x=some c
 has:∀x,scope.names.lookup x=some .free->∃c,cl.lookup x=some c
theorem Bt (h1:∀z∈scope.names,z.2≠.cell)(h2:scope.kind=.function)(h3:scope.isCoroutine=false)(M:scope.isGenerator=false)(hp:scope.names.lookup y=some .local)
  (O:(scope.names.all λz=>!(z.2 == NameKind.free) || (X.env.cells.lookup z.1).isSome)=true):LamSc X scope (dm scope.names X.env.cells []) y:=by
 have h4:∀z∈scope.names,z.2=.free->(X.env.cells.lookup z.1).isSome=true:=λz hz e=>by
  have:=uR O z hz;rw[e]at this;simpa using this
 exact⟨tM scope.names [] h4,h1,h2,h3,M,hp,λx c e=>ms scope.names [] (λy d q=>by cases q) e,λx h=>by
  have:=mu (x:=x) scope.names [] (ga h) (h4 _ (ga h) rfl);exact uU this⟩
section
variable {X:Cx}{ae:AO}{σ:St}{H:Hp}{s:Shared}{A:Around}{N':LS}{scope:Scope}{cl:List (Str×Addr)}{q y:Str}{cap:LN}
theorem IB (S:LamSc X scope cl y)(t:N'[0]? = some y)(n:lJ X N' scope cl 1 cap)(I:Inv X ae σ H s)(B:A.frames=some X.stack)(hh:A.handled=none)(r:aZ v u)
  (C:h₁.Ns s.heap.objs.size (λx=>[(y,u)].reverse.lookup x)) (hk:∀b o,s.heap.get? b=some o->h₁.get? b=some o):
  Inv (y8 X N' scope cl q A f c s H) [] (some v::sW 0 cap σ) H { s with heap:=h₁,toks:=tk }:=by
 have O:∀b:Addr,b∉(y8 X N' scope cl q A f c s H).ex:=λb z=>absurd (show b∈([]:List Addr)from z) (by simp);refine⟨⟨I.ok.mod,S.kind,rfl,rfl,vT _,λx z d a e2=>I.ok.inj x z d (S.sub _ _ a) (S.sub _ _ e2),λx hx=>?_,(λx d e=>by cases e),λ_=>hh,Around.frames_deeper B,.inr ⟨rfl,rfl⟩,λb z=>absurd z (O b),I.bs,vR I.ok.bsz I.sz,λb _ _=>O b,λb z=>absurd z (O b),I.stack,I.stkFree⟩,
  rfl,I.bare,Un.kept hk,⟨_,C,λi x g a e2 L=>?_⟩,λx d e=>?_,I.hok.fresh (vT _),λx d e=>I.freeC x d (S.sub _ _ e),λp hp=>absurd (show p∈([]:AO)from hp) (by simp),I.hok.kept hk,?_⟩
 ·have hx':scope.names.lookup x=some .cell\/scope.names.lookup x=some .free:=hx;rcases hx' with hx'|hx'
  ·exact absurd rfl (S.nocell _ (ga hx'))
  ·exact S.has x hx'
 ·cases i with
  |zero=>
   have M:N'[0]? = some x:=a;rw[t]at M;cases M;have T:some v=some g:=by simpa using e2
   cases T
   exact⟨u,r,.inl ⟨S.par,by simp⟩⟩
  |succ k=>
   have T:(sW 0 cap σ)[k]? = some (some g):=by simpa using e2
   obtain⟨k',h,N,g1,U⟩:=wc T;have:k=k':=by lia
   subst this;obtain⟨j,n1,n2,n3,n4,n5⟩:=n.get g1;have:j=x:=by
    have M:N'[k+1]? = some x:=a;rw[show 1+k=k+1 by lia]at n1;rw[n1]at M;exact vK M
   subst this;have D:σ[h]? = some (some g):=by
    cases z:σ[h]? with
    |none=>rw[z]at U;cases U
    |some w=>rw[z]at U;cases w with
     |none=>cases U
     |some w=>cases U;rfl
   obtain⟨m,_,hl⟩:=I.loc;obtain⟨E,ru,F⟩:=hl h j g n2 D (by
    rcases n3 with n3|n3
    ·exact .inr (.inl n3)
    ·exact .inr (.inr n3))
   refine⟨E,ru,.inr ⟨.inr n4,?_⟩⟩;rcases F with⟨G,_⟩|⟨_,d,J,K⟩
   ·rcases n3 with n3|n3<;>(rw[G]at n3;cases n3)
   ·obtain⟨ob,l,hd⟩:=K;exact⟨d,by show cl.lookup j=_;rw[n5];exact J,ob,hk _ _ l,hd⟩
 ·obtain⟨w,ob,l,hd⟩:=I.cell x d (S.sub _ _ e);exact⟨w,ob,hk _ _ l,hd⟩
 ·have:=n.len;show(some v::sW 0 cap σ).length=N'.length;unfold sW;rw[this];simp;lia
theorem IC (S:LamSc X scope cl y)(m:N'[0]? = some y)(n:lJ X N' scope cl 1 cap)(I:Inv X ae σ H s)
  (p:A.frames=some X.stack) (hh:A.handled=none) (M:A.depth<recursionLimit) (x:Fg H f q params body scope cl)
  (O:∀pm c U u,bindArgs (kla_fn "<lambda>" q params body scope cl pm (.ref c) U) ⟨[u],[]⟩=pure [(y,u)])
  (hb:∀(f c:Addr)(s:Shared)(H:Hp),JE (y8 X N' scope cl q A f c s H) body fb)
  (rep:eU X.K B σ ρ) (C:aT B H) (r:aZ v u) (i:Is X.K B v d) (e:fb (some (d,false)::dn 0 cap ρ)=some (d',b')) (D:Fin X.K B H d' b' Q):
  wpAny (model X.prog X.w) A (call (.ref f) [u]) (EP X ae σ Q) (λ_ _=>False) s:=by
 obtain⟨pm,c,U,Y,oc,Z,E,t,hf,hc,hd,hv⟩:=x;have F:=(I.hok f _ hf).1;have G:=(I.hok c _ hc).1;refine wpAny_call (codeAny_mono (R:=λr s'=>CR xr X.stack X.prog X.w H s Q (λ_ _ _=>False) r s') ?_ λr s' hq=>?_)
 ·refine kla_callFunE M F rfl S.co S.gen rfl ⟨c,oc,E,t,rfl,G,hd,hv⟩ ?_;rw[O];refine wY (wpAny_newFunctionEnv S.nocell (λz hz=>by rw[uT hz];exact S.par) (λa L g=>⟨I.nolimit.fresh _ g,?_⟩) S.kind);have T:∀b o,s.heap.get? b=some o->a.get? b=some o:=λb o e=>g.extBut b o (vS (vX e)) (vZ _ e);have J:=IB (f:=f) (c:=c) (q:=q) (tk:=s.toks+1) S m n I p hh r L T;refine kla_codeExpr (wpAny_mono (hb f c s H [] _ _ H Q J ⟨B,_,d',b',C,⟨rep.tb,λj k l z=>?_⟩,e,D⟩) (λw s' hw=>?_) λ_ _ z=>z.elim)
  ·cases j with
   |zero=>
    have N:some (d,false)=some (k,l):=by simpa using z
    cases N
    exact⟨v,rfl,i⟩
   |succ j=>
    obtain⟨w,h1,h2⟩:=(rep.caps (nT:=0) (cap:=cap)).at' j k l (by simpa using z);exact⟨w,by simpa using h1,h2⟩
  ·obtain⟨P,H',h,V,W⟩:=hw;exact⟨P,H',h.os,h.bare,h.base,h.hok,V,W⟩
 ·cases r with
  |error e=>exact False.elim hq
  |ok fl=>
   cases fl with
   |ret w=>exact I.after hq
   |next=>exact False.elim hq
   |brk=>exact False.elim hq
   |cont=>exact False.elim hq
end
end DL
namespace DL
open PySem PySem.Spec PySem.W PyProof.Rows L2
section
variable {X:Cx}{ae:AO}{σ:St}{H:Hp}{s:Shared}{h':Heap}{t':Nat}
theorem nJ (I:Inv X ((p,o)::ae) σ H s):∀x c,X.env.cells.lookup x=some c->c≠p:=λx c e z=>by
 have M:=I.pin (p,o) (mY _ mX);obtain⟨v,ob,O,hd⟩:=I.cell x c e;rw[z,M.1]at O;cases O;exact M.2.2.2.2 v hd
theorem k7 (I:Inv X (p::ae) σ H s):Inv X ae σ H s:=I.pins_of λq hq=>I.pin q (mY _ (mZ _ hq))
theorem ib (I:Inv X ((p,o)::ae) σ H s)(h0:X.s₀.heap.objs.size<=p)(hp:∀q∈X.pn++ae,q.1≠p)(k:∀b u,b≠p->s.heap.get? b=some u->h'.get? b=some u)(O:h'.get? p=some o')(T:∀v,o'.data≠.cell v):
  Inv X ((p,o')::ae) σ H { s with heap:=h',toks:=t' }:=by
 have M:=I.pin (p,o) (mY _ mX);have J:=(k7 I).turned (t':=t') k M.2.1 M.2.2.1 (.inr h0) (nJ I) hp;refine J.pins_of λq hq=>?_;rcases vP hq with rfl|hq
 ·exact⟨O,M.2.1,M.2.2.1,M.2.2.2.1,T⟩
 ·exact J.pin q (mY _ hq)
theorem pB (I:Inv X ae σ H s)(k:∀b u,s.heap.get? b=some u->h'.get? b=some u)(hs:s.heap.objs.size<=p)(M:h'.get? p=some o)(O:∀v,o.data≠.cell v):Inv X ((p,o)::ae) σ H { s with heap:=h',toks:=t' }:=by
 have J:=I.kept (t':=t') k;refine J.pins_of λq hq=>?_;rcases vP hq with rfl|hq
 ·exact⟨M,I.hok.fresh hs,ne_of_gt (vQ I.lt hs),I.nofs hs,O⟩
 ·exact J.pin q (mY _ hq)
theorem ID (I:Inv X ((p,o)::ae) σ H s)(h0:X.s₀.heap.objs.size<=p)(hp:∀q∈X.pn++ae,q.1≠p)(k:∀b u,b≠p->s.heap.get? b=some u->h'.get? b=some u)(a:∃u,h'.get? p=some u)
  (new:c7 X.prog X.w (upd H p ob) h' p ob):Inv X ae σ (upd H p ob) { s with heap:=h',toks:=t' }:=by
 have M:=I.pin (p,o) (mY _ mX);have hn:=M.2.1;have hn:H p=none:=hn;have cs:=nJ I;refine(k7 I).step (g':=s.gens) (d':=s.drawn) (ch:=[p]) (λb hb=>?_) (λb u _ _ hc e _=>k b u (λz=>hc (by simp[z])) e) (λb u _ _ hc e _=>⟨u.slots,k b u (λz=>hc (by simp[z])) e⟩) (λb u hc _ n=>by rw[aD (λz=>hc (by simp[z]))];exact n)
  (λb u hc e=>⟨u,k b u (λz=>hc (by simp[z])) e⟩) (λb xs e=>by rw[aD (bd e hn)];exact e) (λb u w e=>by rw[aD (bd e hn)];exact e) (λb q e=>by rw[aD (bd e hn)];exact e) (λm hm=>?_) (λb u e=>?_) I.bare
 ·have z:b=p:=by simpa using hb
  subst z;exact⟨.inr h0,M.2.2.1,cs,hp⟩
 ·obtain⟨O,es,T,U,r⟩:=hm;exact⟨O,es,T,k _ O (λz=>M.2.2.1 z.symm) U,r⟩
 ·by_cases z:b=p
  ·subst z;rw[aA]at e;cases e;exact new
  ·rw[aD z]at e;refine(I.hok b u e).stay (λc v hc q=>k c v ?_ q) (λc q=>?_) (λc xs q=>?_) λc w xs q=>?_
   ·rcases hc with rfl|hc
    ·exact z
    ·exact bd hc hn
   ·rw[aD (bd q hn)];exact q
   ·rw[aD (bd q hn)];exact q
   ·rw[aD (bd q hn)];exact q
end
def Bu (X:Cx)(A:Around)(σ:St)(M:Value)(B O:Hp)(T:D->Option D):Prop :=
 ∀(ae:AO)(s:Shared)(H N:Hp)(v:V)(u:Value)(d d':D),Inv X ae σ H s->aT O H->aT B N->aT N H->Is X.K N v d->aZ v u->T d=some d' ->
  wpAny (model X.prog X.w) A (call M [u]) (EP X ae σ λU H'=>∃N',Ext N N' H H'/\Is X.K N' U d') (λ_ _=>False) s
def JK (X:Cx)(A:Around)(e:Expr)(T:Env->D->Option D):Prop:=∀(ae:AO)(s:Shared)(σ:St)(H B:Hp)(ρ:Env)(Q:QV)(E:QV),Inv X ae σ H s->aT B H->eU X.K B σ ρ ->
 (∀O M s1,Inv X ae σ M s1->aT H M->Bu X A σ (.ref O) B M (T ρ)->Q (.ref O) s1)->wq X (eval e X.env) Q E s
section
variable {X:Cx}{A:Around}
@[simp] def qz (cap:LN)(M:FE):Env->D->Option D:=λρ d=>(M (some (d,false)::dn 0 cap ρ)).map (·.1)
theorem wE (hx:x∈mr)(L:Ak X.K x)(hc:∀c P,tabIn X.K x=some (c,P)->X.env.code=.ref c)(hq:X.env.qual ++ "<lambda>" = pZ x)
  (O:defaultsOf params X.env=([],[])) (S:LamSc X scope (dm scope.names X.env.cells []) y) (b:N'[0]? = some y) (g:lJ X N' scope (dm scope.names X.env.cells []) 1 cap) (h:A.frames=X.A.frames) (hr:eQ (k+1) A)
  (M:∀pm c T u,bindArgs (kla_fn "<lambda>" (pZ x) params body scope (dm scope.names X.env.cells []) pm (.ref c) T) ⟨[u],[]⟩=pure [(y,u)])
  (hb:∀(f c:Addr)(s:Shared)(H:Hp),eQ k (y8 X N' scope (dm scope.names X.env.cells []) (pZ x) A f c s H).A->JE (y8 X N' scope (dm scope.names X.env.cells []) (pZ x) A f c s H) body fb):JK X A (.Lambda params body scope pos) (qz cap fb):=by
 intro ae s σ H B ρ Q E I i rep j;refine Fh hx L hc hq O S.clos I (rep.tb.mono i) λf l s1 I1 m n=>j f l s1 I1 m ?_;intro U s' H' N v u d d' a o p q iv r e;simp only[qz]at e;obtain⟨⟨d2,b2⟩,t,e2⟩:=oY e;cases e2
 exact IC S b g a (h.trans a.ok.frames) hr.hd hr.depth (n.mono o) M (λf c s H=>hb f c s H (hr.deeper _)) (rep.mono p) q r iv t λC H2 N2 w z _=>⟨N2,w,z⟩
@[simp] noncomputable def tm (g:LD->OB):Env->D->Option D:=λ_ d=>(g [d]).map (·.1)
theorem Bv (F:Fn X.prog X.w X.K X.mg X.base k x g)(hr:eQ k A)(c:A.frames=X.A.frames)(f:Gl X x:=by rfl)(O:(x == ("__debug__" : Str))=false:=by decide):JK X A (.Name x p) (tm g):=by
 intro ae s σ H B ρ Q E I o rep h;obtain⟨ad,fd,ps,a,hm,hk,hb⟩:=F.ex;refine vg I f hm ?_ O;refine h ad H s I (.refl H) ?_;intro T s' H' N v u d d' U q i j iv r e;simp only[tm]at e;obtain⟨⟨d2,b2⟩,l,e2⟩:=oY e;cases e2
 have sp:Ie X.K g [v] H' (λb H2=>∃N',Ext N N' H' H2/\Is X.K N' b d2) (λ_ _ _=>False):=⟨N,[d],d2,b2,⟨j,rep.tb.mono i⟩,.cons iv .nil,l,λb H2 N2 m n _=>⟨N2,m,n⟩⟩;have hl:[u].length=ps.length:=by have:=a.len _ _ _ _ sp;simpa using this
 have M:=U.env0;have bb:=hb s' [u] U.kIn (by simpa using hl);rw[uQ]at bb;refine wpAny_call (codeAny_mono (a.run A X.stack s' H' ⟨[u],[]⟩ [u] [v] _ (λ_ _ _=>False) hr ⟨c.trans M.frames,M.mod,M.bs,M.bsz,M.funs,M.frf,M.hok,M.bare⟩ bb (.cons r .nil) sp) λr s' hq=>?_);cases r with
 |error e=>exact False.elim hq
 |ok fl=>
  cases fl with
  |ret w=>exact U.after hq
  |next=>exact False.elim hq
  |brk=>exact False.elim hq
  |cont=>exact False.elim hq
end
noncomputable def ju (f:D->Option D):LD->Option LD
 |[]=>some []
 |d::ds=>(f d).bind λx=>(ju f ds).map (x :: ·)
theorem k8:∀ {ds ks:LD},ju f ds=some ks->ks.length=ds.length
 |[],_,h=>by simp only[ju]at h;cases h;rfl
 |d::ds,_,h=>by
  simp only[ju]at h;obtain⟨a,h1,h⟩:=oX h;obtain⟨r,h2,h⟩:=oY h;subst h;simp[k8 h2]
theorem q8:∀ {ds ks:LD},ju f ds=some ks->∀ {i:Nat}{d:D},ds[i]? = some d->∃k,ks[i]? = some k/\f d=some k
 |[],_,h,i,d,e=>by simp at e
 |d::ds,_,h,0,e,q=>by
  simp only[ju]at h;obtain⟨a,h1,h⟩:=oX h;obtain⟨r,h2,h⟩:=oY h;subst h;simp at q;subst q;exact⟨a,by simp,h1⟩
 |d::ds,_,h,i+1,e,q=>by
  simp only[ju]at h;obtain⟨a,h1,h⟩:=oX h;obtain⟨r,h2,h⟩:=oY h;subst h;obtain⟨k,M,O⟩:=q8 h2 (i:=i) (d:=e) (by simpa using q);exact⟨k,by simpa using M,O⟩
structure KK (X:Cx)(A:Around)(kd:List D->Option (List (List At)))(ok:List (List At)->Bool):Prop where
 len:∀ {ds:List D}{ks:List (List At)},kd ds=some ks->ks.length=ds.length
 ask:∀ {ae:List (Addr×Obj)}{σ:St}{H:Hp}{s:Shared}(_:Inv X ae σ H s) {ys:List V}{ds:List D}{ks:List (List At)}{its:List Value},bj ys its->IsL X.K H ys ds->kd ds=some ks->ok ks=true->eK ks=true ->
  (0<ks.length->∀ {E:Value->Shared->Prop}{Q:SortKind->Shared->Prop},Q (tuples' true) s->wpAny (model X.prog X.w) A (keyKind' its.toArray) Q E s) /\
  ∀(i j:Nat)(C:Bool->Shared->Prop)(s1:Shared),i<ks.length->j<ks.length->s1=s->(∀s',s'=s->C (qu (He ks) i j) s')->kas_ask X.prog X.w A (tuples' true) its i j C s1
theorem Fi:KK X A dJ fQ:=⟨lb,λI _ _ _ _ r i e hf hc=>have hp:=pA I r i e;⟨λhn _ _ q=>Fd hp hf hn q,Iz hc hp⟩⟩
section
variable {X:Cx}{ae:AO}{σ:St}{s:Shared}
theorem ug (r:aZ x u):∀ {vs:LV}{us:LU},bj vs us->bj (vs++[x]) (us++[u])
 |_,_,.nil=>.cons r .nil
 |_,_,.cons h t=>.cons h (ug r t)
theorem du:∀v,(Obj.mk c od (.seq its n) sl).data≠.cell v:=λv z=>by cases z
theorem Am 
  (I:Inv X ((a,seqObj "list" its.toArray n)::ae) σ H s) (h0:X.s₀.heap.objs.size<=a) (hp:∀q∈X.pn++ae,q.1≠a) (Hk:Bu X A σ qv B H kf) (l:bj vs its) (iv:IsL X.K B vs ds) (sB:aT B H)
  (M:KK X A kd ok) (F:ju kf ds=some jh) (ek:kd jh=some ks) (hc:eK ks=true) (hf:ok ks=true) (JY:its.length<64)
  (h:∀(p:Array Nat)(s':Shared)(H' N:Hp),p0 its.length p->Up (He ks) p its.length->Inv X ae σ (upd H' a (.lst (p.toList.map λi=>vs.getD i .non))) s'->Ext B N H H'->H' a=none->P (.done (.ret .none)) s'):
  wpAny (model X.prog X.w) A (ksk_tree a qv false) P E s:=by
 have g:=I.pin (a,seqObj "list" its.toArray n) (mY _ mX)
 have Cz:vs.length=its.length:=l.length
 have NJ:ds.length=vs.length:=iv.length.symm
 have XU:jh.length=ds.length:=k8 F
 have Vm:ks.length=jh.length:=M.len ek
 have hz:its.length<=sizeLine:=by rw[sizeLine_eq];lia
 have Z0:H a=none:=g.2.1
 obtain⟨T,L⟩:∃T,(s.heap.update a (Obj.mapSeq λ_=>(#[]:AV))).get? a=some (seqObj "list" #[] T):=⟨_,get?_update_seq g.1 λ_=>#[]⟩
 have u1:=vW s.heap a (Obj.mapSeq λ_=>(#[]:AV))
 have I1:Inv X ((a,seqObj "list" #[] T)::ae) σ H { s with heap:=s.heap.update a (Obj.mapSeq λ_=>(#[]:AV)) }:=ib (t':=s.toks) I h0 hp (λb u n q=>(u1.2 b n).trans q) L du
 let h2:Heap:=(s.heap.update a (Obj.mapSeq λ_=>(#[]:AV))).push (seqObj "tuple" its.toArray 0)
 have I2:Inv X ((a,seqObj "list" #[] T)::ae) σ H { s with heap:=h2 }:=I1.kept (t':=s.toks) λb u q=>vZ _ q
 let kS:Addr:=h2.objs.size
 have I3:Inv X ((kS,seqObj "list" #[] 0)::(a,seqObj "list" #[] T)::ae) σ H { s with heap:=h2.push (seqObj "list" #[] 0) }:=pB (s:={ s with heap:=h2 }) (t':=s.toks) I2 (λb u q=>vZ _ q) (vT _) (vY _ rfl) du
 have k0:X.s₀.heap.objs.size<=kS:=I2.sz
 have kp:∀q∈X.pn++((a,seqObj "list" #[] T)::ae),q.1≠kS:=λq hq=>vS (vX (I2.pin q hq).1)
 have Z1:kS≠a:=λz=>kp (a,seqObj "list" #[] T) (mY _ mX) z.symm
 unfold ksk_tree
 refine wX (listItems_at g.1 rfl ?_)
 refine wX (listUpdate_at g.1 rfl ?_ (by simpa using hz) (uN _))
 refine wX (seqEpoch_at L rfl ?_)
 refine wX (wpAny_newTuple ?_ (by show its.length<=sizeLine;exact hz))
 refine wX (wpAny_newList ?_ (uN _))
 refine wpAny_holding ?_
 show wpAny (model X.prog X.w) A (ksk_rest a qv false its.toArray T (.ref kS)) P E { s with heap:=h2.push (seqObj "list" #[] 0) }
 unfold ksk_rest
 refine wX (wpAny_rule ?_)
 rw[List.forIn_toArray]
 refine wX (ksk_fold (λi s'=>∃(H' N:Hp)(kA:AV)(e:Nat)(aL:LV),Inv X ((kS,seqObj "list" kA e)::(a,seqObj "list" #[] T)::ae) σ H' s'/\Ext B N H H'/\bj aL kA.toList/\IsL X.K N aL (jh.take i)) its 0 _
  ⟨H,B,#[],0,[],I3,.refl sB,.nil,by simpa using IsL.nil⟩ ?step ?done)
 case step=>
  rintro j u s' hu ⟨H',N,kA,e,aL,J,c,rk,ik⟩
  simp only[Nat.zero_add]at ik |-
  have hj:j<its.length:=(vV hu).1
  obtain⟨d,hd⟩:∃d,ds[j]? = some d:=⟨_,vU (by lia)⟩
  obtain⟨v,hv,Qj⟩:=iv.get hd
  obtain⟨kd,XV,Tj⟩:=q8 F hd
  obtain⟨u',R,ru⟩:=l.get hv
  rw[hu]at R;cases R
  have kl:kA.size=j:=by
   have S:=rk.length
   have V:=ik.length
   rw[length_take]at V
   rw[vG]at S
   exact S.symm.trans (V.trans (Nat.min_eq_left (by lia)))
  refine wX (wpAny_attempt (wpAny_mono (Hk _ s' H' N v u d kd J c.hh c.bn c.nh (Qj.mono c.bn) ru Tj) (λw m hw=>?_) λ_ _ hF=>hF.elim))
  obtain⟨v',XW,W,XX,N',Y,i2⟩:=hw
  have f:=W.pin (kS,seqObj "list" kA e) (mY _ mX)
  obtain⟨o,KA⟩:∃o,(m.heap.update kS (Obj.mapSeq (·.push w))).get? kS=some (seqObj "list" (kA.push w) o):=⟨_,get?_update_seq f.1 (·.push w)⟩
  have u2:=vW m.heap kS (Obj.mapSeq (·.push w))
  refine wX (listUpdate_at f.1 rfl ?_ (by rw[sizeLine_eq];lia) (vR (le_of_eq (Array.size_push ..)) (by rw[sizeLine_eq];lia)))
  refine wY ⟨rfl,XW,N',kA.push w,o,aL++[v'],ib (t':=m.toks) W k0 kp (λb q n z=>(u2.2 b n).trans z) KA du,c.trans Y,?_,?_⟩
  ·rw[toList_push];exact ug XX rk
  ·rw[take_add_one,XV];exact(ik.mono Y.bn).append (.cons i2 .nil)
 case done=>
  rintro s' ⟨H',N,kA,e,aL,J,c,rk,ik⟩
  have Z:IsL X.K N aL jh:=by
   have z:jh.take (0+its.length)=jh:=List.take_of_length_le (by lia)
   rw[z]at ik;exact ik
  have f:=J.pin (kS,seqObj "list" kA e) (mY _ mX)
  have XY:=J.pin (a,seqObj "list" #[] T) (mY _ (mZ _ mX))
  have Sz:H' a=none:=XY.2.1
  have t:kA.toList.length=its.length:=by rw[<-rk.length,Z.length];lia
  have Vo:kA.size=its.length:=by rw[<-vG];exact t
  refine wX (listItems_at f.1 rfl ?_)
  have Vp:=M.ask J rk (Z.mono c.nh) ek hf hc
  -- the end of the sort,for a permutation p
  have Ql:∀(st:SortSt)(p:Array Nat),arrOf st=p.map (kas_item (kA.toList.toArray.zip its.toArray))->failedOf st=none->p0 its.length p->Up (He ks) p its.length ->
    wpAny (model X.prog X.w) A (ksk_tail a false T (.ref kS) st) P E s':=λst p ea ef k up=>by
   have eo:(arrOf st).map (·.2)=List.toArray (p.toList.map λi=>its.getD i Value.none):=kat_snds t ea
   have JX:∀i∈p.toList,i<vs.length:=λi hi=>by
    have:=mem_range.mp (k.perm.mem_iff.mp hi)
    lia
   obtain⟨c3,XZ⟩:∃c3,(s'.heap.update kS (Obj.mapSeq λ_=>(#[]:AV))).get? kS=some (seqObj "list" #[] c3):=⟨_,get?_update_seq f.1 λ_=>#[]⟩
   have u3:=vW s'.heap kS (Obj.mapSeq λ_=>(#[]:AV))
   have J3:=k7 (ib (t':=s'.toks) J k0 kp (λb q n z=>(u3.2 b n).trans z) XZ du)
   have x:=J3.pin (a,seqObj "list" #[] T) (mY _ mX)
   obtain⟨y,Vq⟩:∃y,((s'.heap.update kS (Obj.mapSeq λ_=>(#[]:AV))).update a (Obj.mapSeq λ_=>(arrOf st).map (·.2))).get? a=some (seqObj "list" ((arrOf st).map (·.2)) y):=⟨_,get?_update_seq x.1 λ_=>(arrOf st).map (·.2)⟩
   have u4:=vW (s'.heap.update kS (Obj.mapSeq λ_=>(#[]:AV))) a (Obj.mapSeq λ_=>(arrOf st).map (·.2))
   have so:((arrOf st).map (·.2)).size=its.length:=by rw[eo];simp only[vH,vI,vG,k.size]
   unfold ksk_tail
   try dsimp only
   refine wX (listUpdate_at f.1 rfl ?_ (by rw[Vo,sizeLine_eq];lia) (uN _))
   refine wX (wpAny_letGo ?_)
   refine wX (seqEpoch_at x.1 rfl ?_)
   refine wX (listUpdate_at x.1 rfl ?_ (uN _) (by simp only[uV,if_false];rw[so,sizeLine_eq];lia))
   rw[ef]
   simp only[bne_self_eq_false,uV,if_false]
   refine wY (h p _ H' N k up (ID (s:={ s' with heap:=s'.heap.update kS (Obj.mapSeq λ_=>(#[]:AV)) }) (t':=s'.toks) J3 h0 hp (λb q n z=>(u4.2 b n).trans z) ⟨_,Vq⟩ ?_) c Sz)
   refine⟨by rw[vI,vG,k.size];exact hz,p.toList.map λi=>its.getD i Value.none,y,ue l p.toList JX,?_⟩
   rw[<-eo];exact Vq
  unfold ksk_end
  try dsimp only
  simp only[uV,if_false]
  have Ya:kA=kA.toList.toArray:=by simp
  by_cases O:its.toArray.size<2
  ·rw[if_pos O,if_pos O]
   refine wX (wY ?_)
   rw[StateT.run_pure]
   refine wX (wY ?_)
   have Vr:its.length<2:=by simpa using O
   refine Ql _ (List.toArray (List.range its.length)) ?_ rfl ⟨by simp,by simp⟩ ?_
   ·show kA.zip its.toArray=_
    have:=kas_range (kA.toList.toArray.zip its.toArray)
    rw[show(kA.toList.toArray.zip its.toArray).size=its.length by simp[Vo]]at this
    rw[this]
   ·intro i j hij hj
    have:i=j:=by lia
    subst this;exact le_refl _
  ·rw[if_neg O,if_neg O]
   have Tl:2<=its.length:=by simp at O;lia
   rw[Ya]
   refine wX (Vp.1 (by lia) ?_)
   obtain⟨p,r1,r2,r3⟩:=Fa (n:=its.length) (rk:=He ks) (by lia)
   refine wX (wpAny_mono (kat_run (E:=E) (ks:=kA.toList) (vs:=its) (κ:=tuples' true) (s:=s') (Q:=λU s2=>s2=s'/\arrOf U=p.map (kas_item (kA.toList.toArray.zip its.toArray))/\failedOf U=none)
    (G:=λp' s2=>p'=p/\s2=s') t Tl JY (λp' U s2 _ e2 D e4=>by
     obtain⟨rfl,rfl⟩:=e4
     exact⟨rfl,e2,D⟩) (Run.wp (λs2=>s2=s') (λi j C s2 hi hj e hC=>Vp.2 i j C s2 (by lia) (by lia) e hC) r1 rfl λs2 e=>⟨rfl,e⟩)) (λr s2 hr=>?_) λ_ _ z=>z)
   obtain⟨⟨⟩,U⟩:=r
   obtain⟨rfl,e2,D⟩:=hr
   exact Ql U p e2 D r2 r3
end
theorem y9 {α M:Type}{f:α->M}:∀ {l:List α},(l.map f).Nodup->l.Nodup
 |[],_=>nodup_nil
 |a::l,h=>by
  rw[uY,nodup_cons]at h;exact nodup_cons.mpr ⟨λz=>h.1 (uS ⟨a,z,rfl⟩),y9 h.2⟩
def jv (ks:List (List At))(ds:LD):LD:=(eJ (λp:List At×D=>cM p.1) (ks.zip ds)).map (·.2)
theorem Fj {α U:Type}(d:α)(e:U):∀ {O:List α}{M:List U},O.length=M.length->(List.range M.length).map (λi=>(O.getD i d,M.getD i e))=O.zip M:=λ{O M} h=>by
 apply ext_getElem?;intro i;by_cases hi:i<M.length
 ·have T:i<O.length:=by lia
  have:=(getElem?_zip_eq_some (z:=(O[i],M[i]))).mpr ⟨vU T,vU hi⟩;rw[this];simp[hi,T]
 ·simp[hi,h]
theorem IE {α T:Type}{M:List α}{O:List T}(nd:M.Nodup){a:α}{b c:T}(h1:(a,b)∈M.zip O)(h2:(a,c)∈M.zip O):b=c:=by
 obtain⟨i,hi⟩:=List.mem_iff_getElem?.mp h1;obtain⟨j,hj⟩:=List.mem_iff_getElem?.mp h2;obtain⟨d,e⟩:=getElem?_zip_eq_some.mp hi;obtain⟨f,U⟩:=getElem?_zip_eq_some.mp hj;obtain⟨h,ei⟩:=vV d;obtain⟨k,g⟩:=vV f;have:i=j:=(List.getElem_inj nd).mp (ei.trans g.symm);subst this;rw[e]at U;exact vK U
theorem An {ds:LD}{ks:List (List At)}{p:Array Nat}(hl:ks.length=ds.length)(hc:eK ks=true)(nd:ks.Nodup)(M:p0 ds.length p)(up:Up (He ks) p ds.length):p.toList.map (λi=>ds.getD i .non)=jv ks ds:=by
 unfold jv;have e:p.toList.map (λi=>(ks.getD i [],ds.getD i .non))=eJ (λp:List At×D=>cM p.1) (ks.zip ds):=by
  apply k6
  ·intro x hx y hy e;have mx:=(of_mem_zip hx).1;have a:=(of_mem_zip hy).1;have:=nI hc mx a e;obtain⟨k1,d1⟩:=x;obtain⟨k2,d2⟩:=y;have z:k1=k2:=this;subst z;rw[IE nd hx hy]
  ·have:=M.perm.map (λi=>(ks.getD i [],ds.getD i D.non));rw[Fj [] D.non hl]at this;exact this
  ·rw[List.pairwise_iff_getElem];intro i j hi hj O;have hsz:=M.size;have T:i<p.size:=by simpa using hi
   have U:j<p.size:=by simpa using hj
   have:=up i j (le_of_lt O) (by lia);unfold c9 He at this;have b:p.getD i 0=p[i]:=by rw[getD_eq_getD_getElem?,getElem?_eq_getElem T];rfl
   have c:p.getD j 0=p[j]:=by rw[getD_eq_getD_getElem?,getElem?_eq_getElem U];rfl
   have g:=M.lt (k:=j) (by lia);have d:ks.getD (p.getD j 0) []∈ks:=by
    have h':p.getD j 0<ks.length:=by lia
    rw[vF,vU h'];exact getElem_mem h'
   have f:¬cM (ks.getD (p.getD j 0) [])<cM (ks.getD (p.getD i 0) []):=λz=>by
    have:=Bo (cs:=ks.map cM) (uS ⟨_,d,rfl⟩) z;lia
   simp only[List.getElem_map,Array.getElem_toList];unfold Hd;rw[<-b,<-c];exact f
 rw[<-e,uP];rfl
@[simp] def wF (kd:LD->Option (List (List At)))(ok:List (List At)->Bool)(f:FE)(O:Env->D->Option D):FE:=λρ=>(f ρ).bind λx=>match x.1 with
 |.lst ds=>(ju (O ρ) ds).bind λM=>(kd M).bind λks=>if ks.length<64/\eK ks=true/\ok ks=true/\(ks.map cM).Nodup then some (.lst (jv ks ds),true)else none
 |_=>none
@[simp] abbrev qA:FE->(Env->D->Option D)->FE:=wF dJ fQ
section
variable {X:Cx}{e ke:Expr}{p pos kp:Pos}
theorem Fk {kd:LD->Option (List (List At))}{ok:List (List At)->Bool}(M:KK X X.A.in1.in1 kd ok){f:FE}{t:Env->D->Option D}(hm:X.mg "sorted" = none)(he:JE X e f)(hk:JK X X.A.in1.in1 ke t)(L:Gl X "sorted":=by rfl)
  (P:starEach [e] X.env=[(false,eval e X.env)]:=by rfl) (R:backTo pos (starEach [e] X.env)=(false,eval e X.env)::backTo pos (starEach [] X.env):=by rfl) (T:(backTo pos (starEach [e] X.env)).any (·.1)=false:=by rfl)
  (S:(backToKw pos (keywordEach [⟨some "key",ke,kp⟩] X.env)).all (·.1.isSome)=true:=by rfl) (V:(backToKw pos (keywordEach [⟨some "key",ke,kp⟩] X.env)).any (·.1.isNone)=false:=by rfl)
  (W:(backToKw pos (keywordEach [⟨some "key",ke,kp⟩] X.env)).filterMap (·.1)=[("key" : Str)]:=by rfl):
  JE X (.Call (.Name "sorted" p) [e] [⟨some "key",ke,kp⟩] pos) (wF kd ok f t):=by
 intro ae s σ H Q I h;obtain⟨B,ρ,d,b,Y,rep,O,q⟩:=h;obtain⟨⟨xd,xb⟩,ex,O⟩:=oX O;cases xd<;>try (cases O;done)
 rename_i ds;obtain⟨x,y,O⟩:=oX O;obtain⟨ks,ek,O⟩:=oX O;split at O
 ·rename_i hh;obtain⟨JY,hc,hf,nd⟩:=hh;cases O
  refine wpAny_Call_Name_kw (lK I L hm (u:=.builtin "sorted") rfl ?_);refine callWith_kw (cA ((cO he gI P) pos ae s σ H (λvs c=>∃v N,vs=[v]/\Ext B N H c/\Is X.K N v (.lst ds)) I ⟨B,ρ,_,_,Y,rep,ex,λv c N U g _=>⟨v,N,rfl,U,g⟩⟩) λus s1 Z=>?_) R T S V;obtain⟨Yb,c,I1,r1,v,N,rfl,U,g⟩:=Z;obtain⟨u,rfl,ru⟩:=hG r1;refine kws_cons (hk ae s1 σ c N ρ _ _ I1 U.nh (rep.mono U.bn) λj H2 s2 I2 z Hk=>kws_nil ?_);rw[W];show wpAny _ _ (call (.builtin "sorted") [u] [(("key" : Str),.ref j)]) _ _ _;cases g
  rename_i l vs hq k;cases ru
  have C:aT N H2:=U.nh.trans z;obtain⟨its,E,pl,hz⟩:=I2.list (C.seq hq);have Cz:vs.length=its.length:=E.length;have NJ:ds.length=vs.length:=k.length.symm;have XU:x.length=ds.length:=k8 y;have Vm:ks.length=x.length:=M.len ek;have Tr:its.length<64:=by lia
  refine call_function_entry_kw kind_sorted plain_sorted entry_sorted (ksk_s1 _ _) ?_;unfold Builtin.«sorted»;refine wX (m:=checkCount "sorted" 1 1 _) (wY (wX (collect_list pl.isList (wX (wpAny_newList ?_ (by rw[sizeLine_eq];lia))) (by rw[sizeLine_eq];lia))));let h1:Heap:=(s2.heap.push (seqObj "list" #[] 0)).update s2.heap.objs.size (Obj.mapSeq (· ++ its.toArray));have hsz:h1.objs.size=s2.heap.objs.size+1:=by show(Heap.update _ _ _).objs.size=_;rw[Heap.size_update,size_push']
  have Qm:∀b o,s2.heap.get? b=some o->h1.get? b=some o:=λb o q=>(Heap.get?_update_ne _ _ _ _ (vS (vX q))).trans (vZ _ q);have F:Inv X ((h1.objs.size,seqObj "list" its.toArray 0)::ae) σ H2 { s2 with heap:=h1.push (seqObj "list" its.toArray 0) } :=
   pB (t':=s2.toks) I2 (λb u q=>vZ _ (Qm b u q)) (by rw[hsz];exact le_succ _) (vY _ rfl) du
  have p3:=F.pin (h1.objs.size,seqObj "list" its.toArray 0) (mY _ mX);show wpAny (model X.prog X.w) X.A.in1 (holding [.ref h1.objs.size] (call (.builtin "list.sort") [.ref h1.objs.size] [(("key" : Str),.ref j)])>>=_) _ _ { s2 with heap:=h1.push (seqObj "list" its.toArray 0) };refine wX (wpAny_holding (wpAny_call_entry_kw slot_list_sort ⟨_,p3.1,rfl⟩ entry_list_sort ?_ (ksk_l1 _ _)));show wpAny (model X.prog X.w) X.A.in1.in1 (Builtin.«list.sort» ⟨[.ref h1.objs.size],[(Str.ofString "key",.ref j)]⟩) _ _ _;rw[ksk_t1];refine Am F (vR I2.sz (by rw[hsz];exact le_succ _)) (λq hq=>by rw[hsz];exact vS (lt_succ_of_lt (vX (I2.pin q hq).1))) Hk E k C M y ek hc hf Tr λpm s' H' N' n up J a hn=>⟨_,rfl,wY ⟨_,rfl,?_⟩⟩;have T:its.length=ds.length:=by lia
  rw[T]at n up;have er:=An (by lia) hc (y9 nd) n up;have JX:∀i∈pm.toList,i<ds.length:=λi hi=>mem_range.mp (n.perm.mem_iff.mp hi);have r:=y6 (k.mono a.bn) pm.toList JX;rw[er]at r;have G:Ext B N' H H':=(U.trans (.grow U.nh z)).trans a;have hN:N' h1.objs.size=none:=a.nh.free hn;have x5:=G.trans (Ext.laid (o:=.lst (pm.toList.map λi=>vs.getD i .non)) a.nh hn);exact⟨.ref h1.objs.size,_,J,rfl,q _ _ _ x5 (.lst (fx.of aA) (r.mono (Ext.laid (o:=.lst (pm.toList.map λi=>vs.getD i .non)) a.nh hn).bn)) λ_=>⟨_,_,_,rfl,rfl,G.hh.free hn,aA,r.mono (Ext.laid (o:=.lst (pm.toList.map λi=>vs.getD i .non)) a.nh hn).bn⟩⟩
 ·cases O
end
noncomputable def Wl {f:String->CmpOp->Builtin}(_:f "__lt__" .Lt=Builtin.«tuple.__lt__»):=f
noncomputable def Uq:String->CmpOp->Builtin:=Wl rfl
section
variable {prog:Program}{w:World}{A:Around}{E:QV}{s:Shared}{op:CmpOp}
theorem ia.type (h:ia s.heap xs v):s.TypeIs v "tuple":=by
 obtain⟨a,o,its,n,rfl,M,hc,_⟩:=h;exact⟨o,M,hc⟩
inductive GeW (prog:Program)(w:World)(A:Around)(s:Shared)(op:CmpOp)(fin r:Bool):List (Value×Value)->Prop
 |nil (h:fin=r):GeW prog w A s op fin r []
 |eq {u v:Value}{l:List (Value×Value)}(h:SeqAt.EqAt A s u v true) (t:GeW prog w A s op fin r l):GeW prog w A s op fin r ((u,v)::l)
 |ne {u v:Value}{l:List (Value×Value)}(h:SeqAt.EqAt A s u v false) (t:∀(Q E:Value->Shared->Prop),Q (.bool r) s->wpAny (model prog w) A (richCompare op u v) Q E s):GeW prog w A s op fin r ((u,v)::l)
theorem IF {nm:String}(T:s.TypeIs (.ref b) "tuple")(U:s.heap.get? a=some oa)(c:oa.data=.seq its na)(d:s.heap.get? b=some ob)(e:ob.data=.seq Eb nb)
  (W:GeW prog w A s op fin r (its.toList.zip Eb.toList)) (hz:Builtin.Tuple.tupleCompareSizes op its.size Eb.size=.bool fin) (f:op=.Lt\/op=.Gt\/op=.GtE) (q:P (.done (.ret (.bool r))) s):wpAny (model prog w) A (Uq nm op ⟨[.ref a,.ref b],[]⟩) P E s:=by
 show wpAny _ _ (isInstance (.ref _) (.type "tuple")>>=_) _ _ s;refine wX (wpAny_isInstance T isSubtype_tuple_tuple ?_);simp only[Bool.not_true,uV,if_false];refine wX (wpAny_tupleItemsOf U c ?_);refine wX (wpAny_tupleItemsOf d e ?_);refine wX ?_;refine wpAny_forIn_list _ (λaH z s'=>z.1=none/\s'=s/\GeW prog w A s op fin r aH) _ ?_ ?_ _ _ ⟨rfl,rfl,W⟩
 ·rintro⟨u,v⟩ aH z s' ⟨hz,rfl,W⟩;cases W with
  |eq h t=>
   refine wX (h _ _ _ _ ?_);simp only[Bool.not_true,uV,if_false];exact wY ⟨rfl,rfl,t⟩
  |ne h t=>
   refine wX (h _ _ _ _ ?_);simp only[Bool.not_false,if_true];have t:=t (λv M=>v=.bool r/\M=s') E ⟨rfl,rfl⟩;rcases f with rfl|rfl|rfl<;>exact wX (wpAny_rule (wX (wpAny_mono t (λv M hv=>by obtain⟨rfl,rfl⟩:=hv;exact wX (wY (wY (wY q)))) λ_ _ z=>z)))
 ·rintro⟨g,i⟩ s' ⟨O,rfl,W⟩;simp only at O;subst O;refine wY ?_;cases W with
  |nil h=>
   show P (.done (.ret (Builtin.Tuple.tupleCompareSizes op its.size Eb.size))) s';rw[hz,h];exact q
structure CmR (prog:Program)(w:World)(A:Around)(s:Shared)(op:CmpOp)(R:List At->List At->Bool->Prop)(fl:Nat->Nat->Bool):Prop where
 ei:∀ {a xs ys r},R (.i a::xs) (.i a::ys) r->R xs ys r
 es:∀ {a xs ys r},R (.s a::xs) (.s a::ys) r->R xs ys r
 ni:∀ {a c xs ys r},a≠c->R (.i a::xs) (.i c::ys) r->∀t u (Q E:Value->Shared->Prop),Q (.bool r) s->wpAny (model prog w) A (richCompare op (.int a t) (.int c u)) Q E s
 ns:∀ {a c xs ys r},a≠c->R (.s a::xs) (.s c::ys) r->∀t u (Q E:Value->Shared->Prop),Q (.bool r) s->wpAny (model prog w) A (richCompare op (.str a t) (.str c u)) Q E s
 mx:∀ {a c xs ys r},¬R (.i a::xs) (.s c::ys) r/\¬R (.s c::xs) (.i a::ys) r
 en:∀ {xs r},(R [] xs r->fl 0 xs.length=r)/\(R xs [] r->fl xs.length 0=r)
 fs:∀ {m n},fl (m+1) (n+1)=fl m n
theorem Fl (C:CmR prog w A s op R fl)(xs ys:List At)(its M:LU)(T:Paired zB xs its)(U:Paired zB ys M)(h:R xs ys r):GeW prog w A s op (fl xs.length ys.length) r (its.zip M):=by
 induction T generalizing ys M with
 |nil=>exact .nil (C.en.1 h)
 |@cons x v xs its T d b=>
  cases U with
  |nil=>exact .nil (C.en.2 h)
  |@cons y u ys M U O=>
   cases x with
   |i a=>
    cases y with
    |s _=>exact absurd h C.mx.1
    |i c=>
     obtain⟨t,rfl⟩:=T;obtain⟨u,rfl⟩:=U;have he:=SeqAt.EqAt.int_int (A:=A) (s:=s) a t c u;rw[zip_cons_cons,vE,vE,C.fs];by_cases e:a=c
     ·subst e;rw[show(a == a)=true by simp]at he;exact .eq he (b ys M O (C.ei h))
     ·rw[show(a == c)=false by simp[e]]at he;exact .ne he (C.ni e h t u)
   |s a=>
    cases y with
    |i _=>exact absurd h C.mx.2
    |s c=>
     obtain⟨t,rfl⟩:=T;obtain⟨u,rfl⟩:=U;have he:=SeqAt.EqAt.str_str (A:=A) (s:=s) a t c u;rw[zip_cons_cons,vE,vE,C.fs];by_cases e:a=c
     ·subst e;rw[show(a == a)=true by simp]at he;exact .eq he (b ys M O (C.es h))
     ·rw[show(a == c)=false by simp[e]]at he;exact .ne he (C.ns e h t u)
theorem OT:CmR prog w A s .Lt (λxs ys r=>bq xs ys=some r) (λm n=>decide (m<n)) where
 ei h:=by rwa [bq,if_pos rfl]at h
 es h:=by rwa [bq,if_pos rfl]at h
 ni e h _ _ _ _ q:=by rw[bq,if_neg e]at h;cases h;exact PyProof.Rows.lt_int q
 ns e h _ _ _ _ q:=by rw[bq,if_neg e]at h;cases h;exact PySem.P.lt_str q
 mx:=by simp[bq]
 en:=λ{xs}=>by cases xs<;>simp[bq]
 fs:=by simp
theorem OU:CmR prog w A s .Gt (λxs ys r=>bq ys xs=some r) (λm n=>decide (n<m)) where
 ei h:=by rwa [bq,if_pos rfl]at h
 es h:=by rwa [bq,if_pos rfl]at h
 ni e h _ _ _ _ q:=by rw[bq,if_neg (Ne.symm e)]at h;cases h;exact PyProof.Rows.gt_int q
 ns e h _ _ _ _ q:=by rw[bq,if_neg (Ne.symm e)]at h;cases h;exact PySem.P.gt_str q
 mx:=by simp[bq]
 en:=λ{xs}=>by cases xs<;>simp[bq]
 fs:=by simp
theorem Fm (hx:ia s.heap xs (.ref a)):∃o its n,s.heap.get? a=some o/\o.data=.seq its n/\Paired zB xs its.toList/\xs.length=its.size:=by
 obtain⟨O,o,its,n,e,M,hc,hd,p⟩:=hx;cases e
 exact⟨o,its,n,M,hd,p,by rw[<-vG];exact gg p⟩
theorem Kt {nm:String}(C:CmR prog w A s op R fl)(hz:∀m n,Builtin.Tuple.tupleCompareSizes op m n=.bool (fl m n))(M:op=.Lt\/op=.Gt\/op=.GtE)(hx:ia s.heap xs (.ref a))(hy:ia s.heap ys (.ref b))(h:R xs ys r)(q:P (.done (.ret (.bool r))) s):wpAny (model prog w) A (Uq nm op ⟨[.ref a,.ref b],[]⟩) P E s:=by
 have hb:=hy.type;obtain⟨_,_,_,U,hd,p,c⟩:=Fm hx;obtain⟨_,_,_,O,T,d,e⟩:=Fm hy;exact IF hb U hd O T (Fl C _ _ _ _ p d h) (by rw[c,e];exact hz _ _) M q
theorem Fo (hx:ia s.heap xs x)(hy:ia s.heap ys y)(h:bq xs ys=some r)(hu:A.units<cLine)(q:Q (.bool r) s):wpAny (model prog w) A (richCompare .Lt x y) Q E s:=by
 have M:=hx.type;have ty:=hy.type;obtain⟨a,_,_,_,rfl,_⟩:=id hx;obtain⟨b,_,_,_,rfl,_⟩:=id hy;exact wpAny_richCompare_same_room (op:=.Lt) M ty slot_tuple_lt (wpAny_call_entry slot_tuple_lt M PySem.F.entry_tuple_lt (Kt OT (λ_ _=>rfl) (.inl rfl) hx hy h ⟨_,rfl,(λe=>nomatch e),q⟩) (PySem.F.args_tuple_lt_2 _ _)) hu
theorem OV (hx:ia s.heap xs x)(hy:ia s.heap ys y)(h:bq ys xs=some r)(hu:A.units<cLine)(q:Q (.bool r) s):wpAny (model prog w) A (richCompare .Gt x y) Q E s:=by
 have M:=hx.type;have ty:=hy.type;obtain⟨a,_,_,_,rfl,_⟩:=id hx;obtain⟨b,_,_,_,rfl,_⟩:=id hy;exact wpAny_richCompare_same_room (op:=.Gt) M ty slot_tuple_gt (wpAny_call_entry slot_tuple_gt M PySem.F.entry_tuple_gt (Kt OU (λ_ _=>rfl) (.inr (.inl rfl)) hx hy h ⟨_,rfl,(λe=>nomatch e),q⟩) (PySem.F.args_tuple_gt_2 _ _)) hu
end
def m8:List At×D->List (List At×D)->D
 |b,[]=>b.2
 |b,x::r=>if bq b.1 x.1=some true then m8 x r else m8 b r
def lE:List At×D->List (List At×D)->D
 |b,[]=>b.2
 |b,x::r=>if bq x.1 b.1=some true then lE x r else lE b r
noncomputable def Wm {f:String->CmpOp->Builtin}(_:f "max" .Gt=Builtin.«max.loop»):=f
noncomputable def Wn:String->CmpOp->Builtin:=Wm rfl
noncomputable def Wo {f:String->Builtin}(_:f "max" = Builtin.«max»):=f
noncomputable def Wp:String->Builtin:=Wo rfl
structure MM (nm lp:String)(ns:Str)(op:CmpOp)(lt:List At->List At->Option Bool)(go:List At×D->List (List At×D)->D):Prop where
 hn:(toString nm++toString ".loop" : String)=lp
 en:entryFor table lp=some (Wn nm op)
 pl:plainId lp=true
 k2:builtinKind nm=none
 p2:plainId nm=true
 e2:entryFor table nm=some (Wp nm)
 ka:∀a v:Value,argsOk nm ⟨[a],[(Str.ofString "key",v)]⟩
 bt:bootBuiltins ns=some (.builtin nm)
 n1:ns ≠ "__name__"
 n2:(ns == ("__debug__" : Str))=false
 g0:∀b,go b []=b.2
 g1:∀b x r,go b (x::r)=if lt b.1 x.1=some true then go x r else go b r
 cg:∀ {ks:List (List At)},eK ks=true->∀ {a b},a∈ks->b∈ks->∃r,lt a b=some r
 rc:∀ {prog:Program}{w:World}{A:Around}{E:Value->Shared->Prop}{s:Shared}{xs ys:List At}{x y:Value}{r:Bool}{Q:Value->Shared->Prop},ia s.heap xs x->ia s.heap ys y->lt ys xs=some r->A.units<cLine->Q (.bool r) s->wpAny (model prog w) A (richCompare op x y) Q E s
theorem Ur:MM "max" "max.loop" "max" .Gt bq m8 :=
 ⟨by decide,PySem.F.entry_max_loop,PySem.F.plain_max_loop,PySem.F.kind_max,PySem.F.plain_max,PySem.F.entry_max,λ_ _=>by unfold argsOk;kernel_rfl,rfl,by decide,by decide,λ_=>rfl,λ_ _ _=>rfl,λh _ _ a b=>⟨_,gW h a b⟩,OV⟩
theorem Sb:MM "min" "min.loop" "min" .Lt (λa b=>bq b a) lE :=
 ⟨by decide,PySem.F.entry_min_loop,PySem.F.plain_min_loop,PySem.F.kind_min,PySem.F.plain_min,PySem.F.entry_min,λ_ _=>by unfold argsOk;kernel_rfl,rfl,by decide,by decide,λ_=>rfl,λ_ _ _=>rfl,λh _ _ a b=>⟨_,gW h b a⟩,Fo⟩
section
variable {X:Cx}{ae:AO}{σ:St}
theorem Ao (J:Inv X ((M,O)::(T,U)::ae) σ H' s'):Inv X ((T,U)::(M,O)::ae) σ H' s' :=
 J.pins_of λq hq=>J.pin q (by
  rcases vP hq with rfl|hq
  ·exact mY _ (mZ _ mX)
  ·rcases vP hq with rfl|hq
   ·exact mY _ mX
   ·exact mY _ (mZ _ (mZ _ hq)))
theorem qB (hp:∀q∈X.pn++ae,q.1≠a)(h:S≠a):∀q∈X.pn++((S,o)::ae),q.1≠a:=λq hq=>by
 rcases mem_append.mp hq with hq|hq
 ·exact hp q (mem_append_left _ hq)
 ·rcases vP hq with rfl|hq
  ·exact h
  ·exact hp q (mY _ hq)
theorem pC (I:Inv X ae σ H s)(r:aZ v u)(i:Is X.K H v d)(e:yz d=some k):ia s.heap k u:=by
 have:=pA I (ys:=[v]) (ds:=[d]) (ks:=[k]) (its:=[u]) (.cons r .nil) (.cons i .nil) (by simp only[dJ,e];rfl);cases this;assumption
inductive MK (X:Cx)(ae:List (Addr×Obj))(σ:St)(S It l:Addr)(o:Obj)(j:Nat)(N H:Hp)(y:List At×D)(u ku:Value)(s:Shared):Prop
 |mk (H2 N2:Hp) (v kv:V) (kd:D) (oI:Obj) (J:Inv X ((S,o)::(It,oI)::ae) σ H2 s) (DR:s.heap.IsListIter It l (j+1)) (x:Ext N N2 H H2) (ru:aZ v u) (iv:Is X.K N2 v y.2) (rk:aZ kv ku) (ik:Is X.K N2 kv kd) (ek:yz kd=some y.1)
theorem Fp {E:QV}{It:Addr}(hh:X.A.handled=none)(h:Bu X X.A.in1 σ (.ref qa) B H1 kf)(hq:fx X.K B l vs)(iv:IsL X.K B vs ds)(k:ju kf ds=some jh)(ek:dJ jh=some ks)(m:X.s₀.heap.objs.size<=It)(p:∀q∈X.pn++((S,o)::ae),q.1≠It)
  (t:l≠It) (hz:(ks.zip ds)[j]? = some y) (I:Inv X ((S,o)::(It,oI)::ae) σ H s) (DR:s.heap.IsListIter It l j) (M:Ext B N H1 H):
  wpAny (model X.prog X.w) X.A.in1 (pyNext (.ref It)) (λr s1=>∃u,r=some u/\wpAny (model X.prog X.w) X.A.in1 (call (.ref qa) [u]) (MK X ae σ S It l o j N H y u) (λ_ _=>False) s1) E s:=by
 obtain⟨its,x,pl,_⟩:=I.list ((M.bn.trans M.nh).seq hq);obtain⟨hk,hd⟩:=getElem?_zip_eq_some.mp hz;obtain⟨v,hv,T⟩:=iv.get hd;obtain⟨kd,U,C⟩:=q8 k hd;obtain⟨u,hu,ru⟩:=x.get hv;have D:yz kd=some y.1:=by
  have:=ud ek (i:=j) (vV U).1;rw[vF,U,vF,hk]at this;exact this
 refine(Walks.list (prog:=X.prog) (w:=X.w) (A:=X.A.in1) hh It l t its.toArray).item j _ _ _ (by simpa using(vV hu).1) ⟨DR,pl.isList⟩ λF h' G J a L=>?_;have c:its[j]? = some F:=by simpa using J
 rw[hu]at c;cases c;obtain⟨O,P,Q,d⟩:=id a.1;exact⟨u,rfl,cA (h _ _ H N v u y.2 kd (Ao (ib (t':=G) (Ao I) m p (λb o n e=>L b o (by simpa using n) e) P (λv z=>by rw[d]at z;cases z))) M.hh M.bn M.nh (T.mono M.bn) ru C) λku s2 ⟨kv,H2,f,rk,N2,g,ik⟩=>
  ⟨H2,N2,v,kv,kd,O,f,⟨O,(f.pin (It,O) (mY _ (mZ _ mX))).1,Q,d⟩,g,ru,T.mono (M.bn.trans g.bn),rk,ik,D⟩⟩
theorem IG {nm lp:String}{ns:Str}{op:CmpOp}{lt:List At->List At->Option Bool}{go:List At×D->List (List At×D)->D}(M:MM nm lp ns op lt go){E:Value}{l S It:Addr}{vs:LV}{ds jh:LD}{ks:List (List At)}{B F:Hp}{kf:D->Option D}{d0:D}{R:Result->Shared->Prop}(hh:X.A.handled=none)(hu:X.A.in1.units<cLine)(Hk:Bu X X.A.in1 σ E B F kf)(Yf:∃a,E=.ref a)(hq:fx X.K B l vs)(iv:IsL X.K B vs ds)
  (G:ju kf ds=some jh) (ek:dJ jh=some ks) (hc:eK ks=true) (S0:X.s₀.heap.objs.size<=S) (I0:X.s₀.heap.objs.size<=It) (Qn:∀q∈X.pn++ae,q.1≠S) (MZ:∀q∈X.pn++ae,q.1≠It) (t:S≠It) (Rj:S≠l) (Na:l≠It)
  (hR:∀(s':Shared)(H' N:Hp)(v:V)(u:Value),Inv X ae σ H' s'->Ext B N F H'->aZ v u->Is X.K N v d0->R (.ok (.ret u)) s'):
  ∀(r j:Nat)(s:Shared)(H N:Hp)(T O:Value)(h U:V)(i m:D)(k:List At)(c:Nat)(oI:Obj),vs.length - j=r->j<=vs.length->Inv X ((S,seqObj "list" #[T,O] c)::(It,oI)::ae) σ H s->s.heap.IsListIter It l j->Ext B N F H ->
   aZ h T->Is X.K N h i->aZ U O->Is X.K N U m->yz m=some k->k∈ks->go (k,i) ((ks.zip ds).drop j)=d0 ->
   codeAny (model X.prog X.w) X.A (.builtin lp ⟨[.ref It,E,.ref S],[]⟩) R s:=by
 obtain⟨qa,rfl⟩:=Yf;intro r;induction r with
 |zero=>
  intro j s H N T O h U i m k c oI hr hj I DR d J L P Q f mk hd;have Y:=I.pin (S,seqObj "list" #[T,O] c) (mY _ mX);have sB:aT B H:=d.bn.trans d.nh;obtain⟨its,rv,pl,_⟩:=I.list (sB.seq hq);have hl:=pl.isList;have W:=Walks.list (prog:=X.prog) (w:=X.w) (A:=X.A.in1) hh It l Na its.toArray;have hsz:its.toArray.size=its.length:=vH ..;have Cz:vs.length=its.length:=rv.length;have NJ:ds.length=its.length:=by rw[<-iv.length];exact rv.length
  have Vt:ks.length=ds.length:=by rw[lb ek,k8 G]
  have Ti:i=d0:=by
   rw[List.drop_of_length_le (by rw[length_zip];lia)]at hd;rw[M.g0]at hd;exact hd
  subst Ti;refine codeAny_builtin M.en ?_;rw[Around.under_plainId M.pl _];show wpAny _ X.A.in1 (seqItems? (.ref S)>>=_) _ _ _;refine wX (wpAny_seqItems Y.1 rfl ?_);show wpAny _ X.A.in1 (tryCatch (pyNext (.ref It)) _>>=_) _ _ _;refine wX (wpAny_tryCatch (W.done _ _ _ ⟨by rw[hsz,show its.length=j by lia];exact DR,hl⟩ λh' Z K9=>?_));have x:Inv X ((It,oI)::(S,seqObj "list" #[T,O] c)::ae) σ H s:=Ao I;have Tt:∀q∈X.pn++((S,seqObj "list" #[T,O] c)::ae),q.1≠It:=qB MZ t;have J2:Inv X ((S,seqObj "list" #[T,O] c)::ae) σ H { s with heap:=h',toks:=Z } :=
   (k7 x).turned (t':=Z) (λb o n e=>K9 b o (by simpa using n) e) (x.pin (It,oI) (mY _ mX)).2.1 (x.pin (It,oI) (mY _ mX)).2.2.1 (.inr I0) (nJ x) Tt
  have Vu:=J2.pin (S,seqObj "list" #[T,O] c) (mY _ mX);obtain⟨c2,KA⟩:∃c2,(h'.update S (Obj.mapSeq λ_=>(#[]:AV))).get? S=some (seqObj "list" #[] c2):=⟨_,get?_update_seq Vu.1 λ_=>#[]⟩;have C:=vW h' S (Obj.mapSeq λ_=>(#[]:AV));show wpAny _ X.A.in1 (updateSeq S (λ_=>#[])>>=_) _ _ _;refine wX ?_;refine wpAny_updateSeq Vu.1 rfl (wX (wpAny_letGo (wY ?_)));exact hR _ H N h T (k7 (ib (t':=Z) J2 S0 Qn (λb o n e=>(C.2 b n).trans e) KA du)) d J L
 |succ r ih=>
  intro j s H N T O h U i m k c oI hr hj I DR d J L P Q f mk hd;have jZ:j<(ks.zip ds).length:=by rw[length_zip,lb ek,k8 G,<-iv.length];lia
  have Y:=I.pin (S,seqObj "list" #[T,O] c) (mY _ mX);have hz:=vU jZ;rw[List.drop_eq_getElem_cons jZ,M.g1]at hd;generalize (ks.zip ds)[j]=y at hz hd;have hm:y.1∈ks:=vL (getElem?_zip_eq_some.mp hz).1;obtain⟨r,Tu⟩:=M.cg hc mk hm;refine codeAny_builtin M.en ?_;rw[Around.under_plainId M.pl _];show wpAny _ X.A.in1 (seqItems? (.ref S)>>=_) _ _ _;refine wX (wpAny_seqItems Y.1 rfl ?_);show wpAny _ X.A.in1 (tryCatch (pyNext (.ref It)) _>>=_) _ _ _;refine wX (wpAny_tryCatch (cA (Fp hh Hk hq iv G ek I0 (qB MZ t) Na hz I DR d) λ_ s1 ⟨u,e,h1⟩=>?_));subst e;show wpAny _ X.A.in1 (tryCatch (holding [u] (call (.ref qa) [u])) _>>=_) _ _ _;refine wX (wpAny_tryCatch (wpAny_holding (wpAny_mono h1 (λku s2 ⟨H2,N2,v,kv,kd,Rk,p,Qp,g,ru,Qj,rk,ik,NK⟩=>?_) λ_ _ z=>z.elim)));have t1:=pC p rk (ik.mono g.nh) NK;have t2:=pC p P (Q.mono (g.bn.trans g.nh)) f;show wpAny _ X.A.in1 (tryCatch (holding [u,ku] (richCompare op ku O>>=_)) _>>=_) _ _ _;refine wX (wpAny_tryCatch (wpAny_holding (wX (M.rc t1 t2 Tu hu ?_))));refine wX (wpAny_holding (wpAny_truthy_bool ?_));refine wX (wpAny_letGo (wY ?_));cases r with
  |true=>
   rw[if_pos Tu]at hd;have C:=vW s2.heap S (Obj.mapSeq λ_=>#[u,ku]);simp only[if_true];have Qq:=p.pin (S,seqObj "list" #[T,O] c) (mY _ mX);refine wX (wpAny_updateSeq Qq.1 rfl (wX (wpAny_letGo ?_)));rw[M.hn];obtain⟨o,g1,g2⟩:=Qp;exact wY ⟨plainId_quiet M.pl _,ih (j+1) _ H2 N2 u ku v kv y.2 kd y.1 _ Rk (by lia) (by lia) (ib (t':=s2.toks) p S0 (qB Qn t.symm) (λb o n e=>(C.2 b n).trans e) (get?_update_seq Qq.1 λ_=>#[u,ku]) du) ⟨o,(C.2 It t.symm).trans g1,g2⟩ (d.trans g) ru Qj rk ik NK hm hd⟩
  |false=>
   rw[if_neg (by rw[Tu];simp)]at hd;simp only[uV,if_false];refine wX (wpAny_letGo ?_);rw[M.hn];exact wY ⟨plainId_quiet M.pl _,ih (j+1) _ H2 N2 T O h U i m k c Rk (by lia) (by lia) p Qp (d.trans g) J (L.mono g.bn) P (Q.mono g.bn) f mk hd⟩
end
@[simp] def Ml (go:List At×D->List (List At×D)->D)(f:FE)(O:Env->D->Option D):FE:=λρ=>(f ρ).bind λx=>match x.1 with
 |.lst ds=>(ju (O ρ) ds).bind λM=>(dJ M).bind λks=>if eK ks=true then match ks.zip ds with
  |[]=>none
  |y::r=>some (go y r,false)
  else none
 |_=>none
@[simp] def uh:=Ml m8
@[simp] def ui:=Ml lE
section
variable {X:Cx}{e ke:Expr}{p pos kp:Pos}
theorem yA {nm lp:String}{ns:Str}{op:CmpOp}{lt:List At->List At->Option Bool}{go:List At×D->List (List At×D)->D}(M:MM nm lp ns op lt go){f:FE}{t:Env->D->Option D}{k:Nat}(hm:X.mg ns=none)(he:JE X e f)(hk:JK X X.A.in1 ke t)(hr:eQ k X.A)(hg:Gl X ns:=by rfl)
  (Tn:starEach [e] X.env=[(false,eval e X.env)]:=by rfl) (To:backTo pos (starEach [e] X.env)=(false,eval e X.env)::backTo pos (starEach [] X.env):=by rfl) (JR:(backTo pos (starEach [e] X.env)).any (·.1)=false:=by rfl)
  (GV:(backToKw pos (keywordEach [⟨some "key",ke,kp⟩] X.env)).all (·.1.isSome)=true:=by rfl) (Tp:(backToKw pos (keywordEach [⟨some "key",ke,kp⟩] X.env)).any (·.1.isNone)=false:=by rfl)
  (Tq:(backToKw pos (keywordEach [⟨some "key",ke,kp⟩] X.env)).filterMap (·.1)=[("key" : Str)]:=by rfl):
  JE X (.Call (.Name ns p) [e] [⟨some "key",ke,kp⟩] pos) (Ml go f t):=by
 intro ae s σ H Q I h;obtain⟨B,ρ,d,b,sB,rep,O,q⟩:=h;obtain⟨⟨xd,xb⟩,ex,O⟩:=oX O;cases xd<;>try (cases O;done)
 rename_i ds;obtain⟨jh,w,O⟩:=oX O;obtain⟨ks,ek,O⟩:=oX O;split at O
 ·rename_i hc;split at O
  ·cases O
  ·rename_i y aH i;cases O
   refine wpAny_Call_Name_kw (lK I hg hm M.bt ?_ M.n1 M.n2);refine callWith_kw (cA ((cO he gI Tn) pos ae s σ H (λvs c=>∃v N,vs=[v]/\Ext B N H c/\Is X.K N v (.lst ds)) I ⟨B,ρ,_,_,sB,rep,ex,λv c N U j _=>⟨v,N,rfl,U,j⟩⟩) λus s1 hA=>?_) To JR GV Tp;obtain⟨Yb,c,I1,r1,v,N,rfl,U,j⟩:=hA;obtain⟨u,rfl,ru⟩:=hG r1;refine kws_cons (hk ae s1 σ c N ρ _ _ I1 U.nh (rep.mono U.bn) λa H2 s2 I2 x C=>kws_nil ?_);rw[Tq];show wpAny _ _ (call (.builtin nm) [u] [(("key" : Str),.ref a)]) _ _ _;cases j
   rename_i l vs hq m;cases ru
   have E:aT N H2:=U.nh.trans x;obtain⟨its,rv,pl,hz⟩:=I2.list (E.seq hq);have F:l<s2.heap.objs.size:=by
    obtain⟨ol,Rf,_⟩:=pl.isList;exact vX Rf
   have G:(ks.zip ds)[0]? = some y:=by rw[i];rfl
   have Yg:=vL (getElem?_zip_eq_some.mp G).1;refine kmk_tree M.k2 M.p2 M.e2 (M.ka _ _) ?_;show wpAny _ X.A.in1 (Builtin.Builtins.bindParams nm ["key","default"] 0 ⟨[],[(Str.ofString "key",.ref a)]⟩>>=_) _ _ s2;refine wX (wpAny_of_eq (show Builtin.Builtins.bindParams nm ["key","default"] 0 ⟨[],[(Str.ofString "key",.ref a)]⟩=pure [some (.ref a),none]from rfl) ?_);refine wX (wY ?_);refine wX (wpAny_pyIter_list pl.isList ?_);refine wX (wpAny_newList ?_ (uN _));rw[M.hn];let It:Addr:=s2.heap.objs.size;let oI:Obj:={ cls:=.type "list_iterator",data:=.fields #[.ref l,.int 0 0] };let S:Addr:=(s2.heap.push oI).objs.size;have g:S=s2.heap.objs.size+1:=size_push' ..;have T:S≠It:=by rw[g];exact ne_of_gt (lt_succ_self _)
   have J1:Inv X ((It,oI)::ae) σ H2 { s2 with heap:=s2.heap.push oI }:=pB (t':=s2.toks) I2 (λb u q=>vZ _ q) (vT _) (vY _ rfl) (λv z=>by cases z);have r:Inv X ((S,seqObj "list" #[] 0)::(It,oI)::ae) σ H2 { s2 with heap:=(s2.heap.push oI).push (seqObj "list" #[] 0) }:=pB (s:={ s2 with heap:=s2.heap.push oI }) (t':=s2.toks) J1 (λb u q=>vZ _ q) (vT _) (vY _ rfl) du;have J:X.s₀.heap.objs.size<=It:=I2.sz;have L:X.s₀.heap.objs.size<=S:=by rw[g];exact le_succ_of_le I2.sz
   have P:∀q∈X.pn++ae,q.1≠It:=λq hq=>vS (vX (I2.pin q hq).1);have R:∀q∈X.pn++ae,q.1≠S:=λq hq=>by rw[g];exact vS (lt_succ_of_lt (vX (I2.pin q hq).1))
   have V:l≠It:=vS F;have Rj:S≠l:=by rw[g];exact ne_of_gt (lt_succ_of_lt F)
   have hh:X.A.handled=none:=hr.hd;have hu:X.A.in1.units<cLine:=by have:=hr.un;show X.A.units+1<cLine;lia
   have pS:=r.pin (S,seqObj "list" #[] 0) (mY _ mX);have pI:=r.pin (It,oI) (mY _ (mZ _ mX));refine wY ⟨plainId_quiet M.pl _,?_⟩;refine codeAny_builtin M.en ?_;rw[Around.under_plainId M.pl _];show wpAny _ X.A.in1 (seqItems? (.ref S)>>=_) _ _ { s2 with heap:=(s2.heap.push oI).push (seqObj "list" #[] 0) };refine wX (wpAny_seqItems pS.1 rfl ?_);show wpAny _ X.A.in1 (tryCatch (pyNext (.ref It)) _>>=_) _ _ _;refine wX (wpAny_tryCatch (cA (Fp hh C hq m w ek J (qB P T) V G r ⟨oI,pI.1,rfl,rfl⟩ (.refl E)) λ_ s1 ⟨u,e,h1⟩=>?_));subst e;show wpAny _ X.A.in1 (tryCatch (holding [u] (call (.ref a) [u])) _>>=_) _ _ _;refine wX (wpAny_tryCatch (wpAny_holding (wpAny_mono h1 (λku W ⟨H3,N3,v,kv,kd,Rk,Y,⟨o,g1,g2⟩,x3,ru,Qj,rk,ik,NK⟩=>?_) λ_ _ z=>z.elim)));have Z:=Y.pin (S,seqObj "list" #[] 0) (mY _ mX);have u2:=vW W.heap S (Obj.mapSeq λ_=>#[u,ku]);show wpAny _ X.A.in1 (updateSeq S (λ_=>#[u,ku])>>=_) _ _ _;refine wX (wpAny_updateSeq Z.1 rfl ?_);rw[M.hn];have Tv:1<=vs.length:=by
    have:=congrArg List.length i;rw[length_zip,vE,<-m.length]at this;lia
   exact wY ⟨plainId_quiet M.pl _,IG M (S:=S) (It:=It) hh hu C ⟨a,rfl⟩ hq m w ek hc L J R P T Rj V (λs' H' N' v' u' J' x' r' i'=>⟨v',H',J',r',q _ _ _ ((U.trans (.grow U.nh x)).trans x') i' (by simp)⟩) _ 1 _ H3 N3 u ku v kv y.2 kd y.1 _ Rk rfl Tv
    (ib (t':=W.toks) Y L (qB R T.symm) (λb o n e=>(u2.2 b n).trans e) (get?_update_seq Z.1 λ_=>#[u,ku]) du) ⟨o,(u2.2 It T.symm).trans g1,g2⟩ x3 ru Qj rk ik NK Yg (by rw[i];rfl)⟩
 ·cases O
end
section
variable {X:Cx}
@[simp] def KU:D->D->OB
 |.tup xs,.tup ys=>(jJ xs).bind λM=>(jJ ys).bind λbs=>(bq M bs).map λr=>(.bl r,false)
 |_,_=>none
theorem OW (hu:X.A.units+40<cLine):dN X (compareOp .Lt) (rD X.K KU):=by
 intro ae s σ H x y v u Q I O T q;obtain⟨B,dx,U,d,b,M,a,c,e,q⟩:=q;cases dx<;>try (simp[KU]at e;done)
 cases U<;>try (simp[KU]at e;done)
 simp only[KU]at e;obtain⟨h,f,e⟩:=oX e;obtain⟨bs,e2,e⟩:=oX e;obtain⟨r,g,e⟩:=oY e;cases e
 show wpAny _ _ (richCompare .Lt v u) _ _ _;exact Fo (pC I O (a.mono M) f) (pC I T (c.mono M) e2) g (by lia) ⟨.bl r,H,I,rfl,q.one M (.bl r)⟩
end
end DL
namespace DL
open PySem PySem.Spec PyProof.Rows L2
section
variable {X:Cx}
noncomputable def uj:D->D->OB
 |.tup xs,.tup ys=>if xs.isEmpty=true then some (.tup ys,false)else none
 |_,_=>none
theorem IH:dN X (binaryOp .Add) (rD X.K uj):=by
 intro ae s σ H x y v u Q I k m q;obtain⟨B,dx,C,d,bb,c,o,p,M,q⟩:=q;cases o<;>try (cases M;done)
 cases p<;>try (cases M;done)
 rename_i l vs ds h hl f D es h' e;simp only[uj]at M;split at M
 ·rename_i hz;cases M
  cases k
  cases m
  obtain⟨its,r,t,_⟩:=I.tuple (bv c h);obtain⟨O,E,p2,_⟩:=I.tuple (bv c h');have he:its.toArray.isEmpty=true:=by
   have g:=hl.length;have e2:=r.length;have w:=List.isEmpty_iff.mp hz;rw[w]at g;cases its with
   |nil=>rfl
   |cons a b=>rw[g]at e2;simp at e2
  obtain⟨⟨cls,dd,data,sl⟩,i,hc,n,hd⟩:=id t;obtain⟨⟨F,z,data2,A⟩,T,U,n2,j⟩:=id p2;dsimp only at hc hd U j;subst hc;subst hd;subst U;subst j;exact concat_meets ⟨_,i,rfl⟩ ⟨_,T,rfl⟩ noFill_tuple_add seq_tuple_add slot_tuple_add entry_tuple_add (args_tuple_add_2 _ _)
   (tuple_addW0 l f its.toArray O.toArray n n2 dd z sl A he) ⟨i,T,⟨.ref f,H,I,rfl,q.one c (.tup h' e)⟩⟩
 ·cases M
@[simp] noncomputable def Bw:D->D->OB
 |.tup xs,.tup ys=>if xs.length+ys.length<=sizeLine then some (.tup (xs++ys),false)else none
 |_,_=>none
theorem II (xs ys:LD)(z:xs.length+ys.length<=sizeLine):DW sX uj (.tup xs) (.tup ys)=some (.tup (xs++ys),false):=by
 cases xs with
 |nil=>
  have:sX (.tup []) (.tup ys)=none:=if_neg (λh=>by cases h.2);show(match sX (.tup []) (.tup ys) with|some z=>some z|none=>uj (.tup []) (.tup ys))=_;rw[this];rfl
 |cons a l=>
  have:sX (.tup (a::l)) (.tup ys)=some (.tup (a::l++ys),false):=if_pos ⟨z,rfl⟩;show(match sX (.tup (a::l)) (.tup ys) with|some z=>some z|none=>uj (.tup (a::l)) (.tup ys))=_;rw[this]
theorem Fq:dN X (binaryOp .Add) (rD X.K Bw):=by
 refine iW (r:=rD X.K (DW sX uj)) (nA EI IH) λx y H Q q=>?_;obtain⟨B,dx,U,d,bb,a,O,T,M,q⟩:=q;refine⟨B,dx,U,d,bb,a,O,T,?_,q⟩;cases O<;>try (cases M;done)
 cases T<;>try (cases M;done)
 rename_i l vs ds h hl c e es h' b;simp only[Bw]at M;split at M
 ·rename_i hz;rw[II _ _ hz];exact M
 ·cases M
end
@[simp] noncomputable def lF:D->Option dO
 |.int i=>some (.inl i)
 |.str x=>some (.inr x)
 |_=>none
theorem qC {K:Frag}{B:Hp}{v:V}{d:D}{k:dO}(i:Is K B v d)(e:lF d=some k):v=kV k:=by
 cases i<;>simp only[lF]at e<;>cases e<;>rfl
noncomputable def cu {κ:Type}[DecidableEq κ]:List κ->LD->κ->Option D
 |k'::ks,d::ds,k=>if k'=k then some d else cu ks ds k
 |_,_,_=>none
theorem qD {κ:Type}[DecidableEq κ]{K:Frag}{B:Hp}(k:κ):∀ {ks:List κ}{vs:LV}{ds:LD},ks.length=vs.length->IsL K B vs ds ->
  (∃v d,fL (ks.zip vs) k=some v/\cu ks ds k=some d/\Is K B v d)\/(fL (ks.zip vs) k=none/\cu ks ds k=none)
 |[],vs,ds,_,_=>.inr ⟨by cases vs<;>rfl,by cases ds<;>rfl⟩
 |k'::ks,[],_,h,_=>by simp at h
 |k'::ks,v::vs,_,h,.cons i is=>by
  rw[zip_cons_cons];unfold cu;by_cases e:k'=k
  ·rw[if_pos e];exact .inl ⟨v,_,dC (p:=(k',v)) e,rfl,i⟩
  ·rw[if_neg e,dD (p:=(k',v)) e];exact qD k (by simpa using h) is
section
variable {X:Cx}{o e i:Expr}{pos:Pos}
@[simp] def Fs:D->D->OB
 |.dk ks vs,y=>(lF y).map λk=>((cu ks vs k).getD .non,false)
 |_,_=>none
theorem Ft {dI cL:Pos}{c fe:FE}(hu:X.A.units+1<cLine)(f:JE X o c)(he:JE X e fe)(m:M1 X o "get" dI e cL):JE X (.Call (.Attribute o "get" dI) [e] [] cL) (f2 Fs c fe):=by
 refine PE.to (xL hu f he m) λσ H Q q=>?_;obtain⟨B,ρ,d,bb,g,r,M,q⟩:=q;obtain⟨x,ex,M⟩:=oX M;obtain⟨y,j,M⟩:=oX M;refine⟨B,ρ,x.1,x.2,g,r,ex,λv p N1 T l s=>?_⟩;obtain⟨xd,t⟩:=x;cases l with
 |@dk a ks vs ds ob h hl hs=>
  simp only[Fs]at M;obtain⟨k,hk,M⟩:=oY M;cases M
  refine⟨a,rfl,.inl ⟨_,_,.inl (T.nh _ _ h)⟩,N1,ρ,y.1,y.2,T.nh,r.mono T.bn,j,λu H2 N2 O n _=>?_⟩;have hv:=qC n hk;subst hv;refine⟨fL (ks.zip vs) k,.inl ⟨_,k,_,.inl (O.nh _ _ (O.bn _ _ h)),rfl,rfl⟩,?_⟩;have U:=hs.mono O.bn;rcases qD k hl U with⟨v,d',b,e2,i3⟩|⟨b,e2⟩
  ·rw[b];rw[e2]at q;exact(q.into (T.trans O)).one O.nh i3
  ·rw[b];rw[e2]at q;exact(q.into (T.trans O)).one O.nh .non
 |_=>simp[Fs]at M
@[simp] def Ku:D->D->OB
 |.dk ks vs,y=>(lF y).bind λk=>(cu ks vs k).map λd=>(d,false)
 |_,_=>none
theorem Fu {b fi:FE}(hu:X.A.units+1<cLine)(c:JE X o b)(hi:JE X i fi)(hs:L6 i):JE X (.Subscript o i pos) (f2 Ku b fi):=by
 refine PE.to (AQ hu c hi hs) λσ H Q q=>?_;obtain⟨B,ρ,d,bb,f,r,M,q⟩:=q;obtain⟨x,ex,M⟩:=oX M;obtain⟨y,g,M⟩:=oX M;refine⟨B,ρ,x.1,x.2,f,r,ex,λv n N1 T j p=>?_⟩;obtain⟨xd,s⟩:=x;cases j with
 |@dk a ks vs ds ob h hl U=>
  simp only[Ku]at M;obtain⟨k,hk,M⟩:=oX M;obtain⟨d0,hd,M⟩:=oY M;cases M
  refine⟨N1,ρ,y.1,y.2,T.nh,r.mono T.bn,g,λt H2 N2 O l _=>?_⟩;have hv:=qC l hk;subst hv;rcases qD k hl (U.mono O.bn)with⟨v,d',m,e2,i3⟩|⟨_,e2⟩
  ·rw[hd]at e2;cases e2
   exact⟨a,v,rfl,.inl ⟨_,k,_,.inl (O.nh _ _ (O.bn _ _ h)),rfl,m.symm⟩,(q.into (T.trans O)).one O.nh i3⟩
  ·rw[hd]at e2;cases e2
 |_=>simp[Ku]at M
@[simp] def Mm:D->D->OB
 |y,.dk ks vs=>(lF y).map λk=>(.bl (cu ks vs k).isSome,false)
 |_,_=>none
theorem Dk {κ:Type}[DecidableEq κ]{K:Frag}{B:Hp}{k:κ}{ks:List κ}{vs:LV}{ds:LD}(hl:ks.length=vs.length)(hs:IsL K B vs ds):(fL (ks.zip vs) k).isSome=(cu ks ds k).isSome:=by
 rcases qD k hl hs with⟨v,d,M,e2,_⟩|⟨M,e2⟩
 ·rw[M,e2];rfl
 ·rw[M,e2];rfl
end
noncomputable def dL {κ:Type}[DecidableEq κ](ks:List κ)(k:κ):List κ:=if k∈ks then ks else ks++[k]
noncomputable def dM {κ α:Type}[DecidableEq κ](ks:List κ)(xs:List α)(k:κ)(x:α):List α:=if k∈ks then List.zipWith (λk' M=>if k'=k then x else M) ks xs else xs++[x]
theorem By {κ:Type}[DecidableEq κ](k:κ):∀ {ks:List κ}{vs:LV},ks.length=vs.length->((ks.zip vs).any λkv=>decide (kv.1=k))=decide (k∈ks)
 |[],_,_=>by simp
 |k'::ks,[],h=>by simp at h
 |k'::ks,v::vs,h=>by
  have M:=By k (ks:=ks) (vs:=vs) (by simpa using h);rw[zip_cons_cons,any_cons,M];by_cases e:k'=k
  ·simp[e]
  ·have O:¬k=k':=λz=>e z.symm;simp[e,O]
theorem Bz {κ:Type}[DecidableEq κ](k:κ)(v:V):∀(ks:List κ)(vs:LV),(ks.zip vs).map (λkv=>if kv.1=k then (kv.1,v)else kv)=ks.zip (List.zipWith (λk' M=>if k'=k then v else M) ks vs)
 |[],_=>by simp
 |_::_,[]=>by simp
 |k'::ks,w::vs=>by
  rw[zip_cons_cons,uY,Bz k v ks vs,zipWith_cons_cons,zip_cons_cons];by_cases e:k'=k
  ·simp[e]
  ·simp[e]
theorem pD {κ:Type}[DecidableEq κ]{ks:List κ}{vs:LV}(hl:ks.length=vs.length)(k:κ)(v:V):jl (ks.zip vs) k v=(dL ks k).zip (dM ks vs k v):=by
 unfold jl dL dM;rw[By k hl];by_cases h:k∈ks
 ·rw[if_pos (xq h),if_pos h,if_pos h,Bz]
 ·rw[if_neg (by simpa using h),if_neg h,if_neg h,List.zip_append hl];rfl
theorem m9 {κ α:Type}[DecidableEq κ]{ks:List κ}{xs:List α}(hl:ks.length=xs.length)(k:κ)(x:α):(dL ks k).length=(dM ks xs k x).length:=by
 unfold dL dM;split<;>simp[hl]
theorem IsL.zipWith {κ:Type}[DecidableEq κ]{K:Frag}{B:Hp}{k:κ}{v:V}{d:D}(i:Is K B v d):∀ {ks:List κ}{vs:LV}{ds:LD},IsL K B vs ds->IsL K B (List.zipWith (λk' M=>if k'=k then v else M) ks vs) (List.zipWith (λk' M=>if k'=k then d else M) ks ds)
 |[],_,_,_=>by simpa using IsL.nil
 |_::_,_,_,.nil=>by simpa using IsL.nil
 |k'::ks,_,_,.cons h t=>by
  rw[zipWith_cons_cons,zipWith_cons_cons];refine .cons ?_ (IsL.zipWith i t);by_cases e:k'=k
  ·rw[if_pos e,if_pos e];exact i
  ·rw[if_neg e,if_neg e];exact h
theorem IsL.put {κ:Type}[DecidableEq κ]{K:Frag}{B:Hp}{k:κ}{v:V}{d:D}(i:Is K B v d){ks:List κ}{vs:LV}{ds:LD}(h:IsL K B vs ds):IsL K B (dM ks vs k v) (dM ks ds k d):=by
 unfold dM;split
 ·exact h.zipWith i
 ·exact h.append (.cons i .nil)
section
variable {K:Frag}{E:Ends}{σ:St}{H:Hp}
noncomputable def B1 (i:Nat):FS:=λρ=>some (.nx (ρ.set i (some (.dk [] [],true))))
noncomputable def Fv (i:Nat):FS:=λρ=>some (.nx (ρ.set i (some (.dt [] [],true))))
theorem eO.newBox (s:eO K B0 H0 N H σ ρ)(i:Nat)(hp:H p=none)(hb:∀C,Bx K C ob dd):eO K B0 H0 (upd N p ob) (upd H p ob) (σ.set i (some (.ref p))) (ρ.set i (some (dd,true))):=by
 have x:=Ext.laid (o:=ob) s.ext.nh hp;have s1:=s.grow x;have M:N p=none:=s.ext.nh.free hp;have O:¬own σ ρ p:=λz=>by obtain⟨U,⟨q,_⟩,_⟩:=s.owned z;rw[M]at q;cases q
 have c:aT (eE N (own σ ρ)) (eE (upd N p ob) (λb=>own σ ρ b\/b=p)):=eY λb u e q=>⟨x.bn _ _ e,λz=>z.elim q λz=>by subst z;rw[M]at e;cases e⟩;refine s1.bindOwn aA (s.ext.hh.free hp) (λj e q z=>O ⟨j,e,q,z⟩) (λj e _ q=>?_) (λj e _ q=>?_) (hb _)
 ·obtain⟨w,h1,h2⟩:=s.sh j e q;exact⟨w,h1,h2.mono c⟩
 ·obtain⟨T,o',h1,h2,_,h4⟩:=s.ow j e q;exact⟨T,o',h1,x.bn _ _ h2,h4.mono c⟩
theorem Fw (q:ny K (B1 i) E σ H):xD Es (gZ i) E σ H:=by
 obtain⟨B0,H0,ρ,r,⟨N,s⟩,e,p⟩:=q;cases e
 exact λa ob ha=>p _ _ ⟨_,s.newBox i ha λ_=>.dk (ks:=[]) (vs:=[]) rfl .nil⟩
theorem Fx (q:ny K (Fv i) E σ H):xD Et (gZ i) E σ H:=by
 obtain⟨B0,H0,ρ,r,⟨N,s⟩,e,p⟩:=q;cases e
 exact λa ha=>p _ _ ⟨_,s.newBox i ha λ_=>.dt (ks:=[]) (vs:=[]) rfl .nil⟩
def yB (i:Nat)(O T:FE):FS:=λρ=>match ρ[i]? with
 |some (some (.dk ks vs,true))=>(T ρ).bind λv=>(O ρ).bind λk=>(lF k.1).bind λM=>if bB v.1=true/\ks.length<sizeLine then some (.nx (ρ.set i (some (.dk (dL ks M) (dM ks vs M v.1),true))))else none
 |_=>none
theorem Fy {i:Nat}{M O:FE}(q:ny K (yB i M O) E σ H):AN (pP i) (tD K M) (tD K O) E σ H:=by
 obtain⟨B0,H0,ρ,r,⟨N,s⟩,e,p⟩:=q;unfold yB at e;split at e
 ·rename_i ks ds ei;obtain⟨v,U,e⟩:=oX e;obtain⟨k,ek,e⟩:=oX e;obtain⟨b,hk,e⟩:=oX e;split at e
  ·rename_i hx;cases e
   refine⟨N,ρ,v.1,v.2,s.ext.nh,s.rep,U,λh j N1 c d _=>?_⟩;have s1:=s.grow c;obtain⟨a,o,h1,h2,h3,h4⟩:=s1.ow i _ ei;refine⟨.ref a,h1,N1,ρ,k.1,k.2,s1.ext.nh,s1.rep,ek,λl H2 N2 T f _=>?_⟩;have s2:=s1.grow T;have hv:=qC f hk;subst hv;obtain⟨m,o',k1,k2,n,g⟩:=s2.ow i _ ei;rw[h1]at k1;cases k1
   cases g with
   |@dk ks vs ds hl h5 ob=>
    refine⟨a,rfl,.inl ⟨_,b,_,s2.ext.nh _ _ k2,rfl,?_,λt=>?_⟩⟩
    ·rw[length_zip];lia
    ·rw[pD hl];exact p σ _ ⟨_,s2.writeB ei h1 (.dk (m9 hl _ _) (h5.put (s2.flat (d.mono T.bn) hx.1)))⟩
  ·cases e
 ·cases e
end
section
variable {X:Cx}{pos:Pos}{e k:Expr}
theorem B3 (M:X.N.Nodup)(hi:X.N[i]? = some x:=by rfl)(hx:GY X.env.scope x:=by first|exact Or.inl rfl|exact Or.inr rfl)(hs:swapsWith (.Dict [] [] dp) (some (.Name x p)) pos.line X.env=pure false:=by rfl)
  (hf:X.fn x=true\/X.env.scope.names.lookup x=some .local:=by first|exact .inl rfl|exact .inr rfl):JS X (.Assign [.Name x p] (.Dict [] [] dp) pos) (B1 i):=PS.to (kh M hi hx xK hs hf) λ_ _ _ q=>Fw q
theorem IJ (M:X.N.Nodup)(hi:X.N[i]? = some x:=by rfl)(hx:GY X.env.scope x:=by first|exact Or.inl rfl|exact Or.inr rfl)(hs:swapsWith (.Dict [] [] dp) (some (.Name x p)) pos.line X.env=pure false:=by rfl)
  (hf:X.fn x=true\/X.env.scope.names.lookup x=some .local:=by first|exact .inl rfl|exact .inr rfl):JS X (.Assign [.Name x p] (.Dict [] [] dp) pos) (Fv i):=PS.to (kh M hi hx Eu hs hf) λ_ _ _ q=>Fx q
theorem IK (hu:X.A.units+1<cLine)(hv:JE X e U)(hk:JE X k fk)(T:X.N[i]? = some y:=by rfl)(M:KP X.env.scope y:=by first|exact Or.inl rfl|exact Or.inr (Or.inl rfl)|exact Or.inr (Or.inr rfl))(hd:(y == ("__debug__" : Str))=false:=by decide)
  (O:(y == ("__classdict__" : Str))=false:=by decide) (hs:swapsWith e (some (.Subscript (.Name y py) k pt)) pos.line X.env=pure false:=by rfl):JS X (.Assign [.Subscript (.Name y py) k pt] e pos) (yB i fk U) :=
 PS.to (p7 hu (cF T M hd O) hk hv hs) λ_ _ _ q=>Fy q
end
section
variable {prog:Program}{w:World}{A:Around}{E:QV}{s:Shared}
abbrev Mn (h:Heap)(z TI TO M:Addr)(f:Bool):Prop:=h.get? z=some { cls:=.type "zip",dict:=none,data:=.fields #[rawInt M,.bool f,.bool false,.ref TI,.ref TO],slots:=#[] }
end
def Us (k1 k2:Bool)(z TI TO O T U c S:Addr)(i:Nat)(h:Heap):Prop :=
 IsPair h TI (.ref O) (.ref T)/\Bi k1 h O U i/\Bi k2 h T c i/\((IsZip h z TI TO .none/\∃a b,IsPair h TO a b)\/∃M f d e,Mn h z TI TO M f/\h.get? M=some d/\M∉[z,TI,TO,O,T]/\M≠S/\h.get? TO=some e)
section
variable {prog:Program}{w:World}{A:Around}{E:QV}{s:Shared}{k1 k2:Bool}{z TI TO i1 i2 l1 l2 S:Addr}{j:Nat}{xs ys:AV}
theorem Us.ty (st:Us k1 k2 z TI TO i1 i2 l1 l2 S j h):∃o,h.get? z=some o/\o.cls=.type "zip":=by
 obtain⟨_,_,_,M⟩:=st;rcases M with⟨b1,_⟩|⟨O,f,T,U,b1,_⟩
 ·exact⟨_,b1,rfl⟩
 ·exact⟨_,b1,rfl⟩
end
theorem qE (h:H a=none):aT H (upd H a o):=λb u e=>by rw[aD (bd e h)];exact e
end DL
namespace DL
open PySem PySem.Spec PyProof.Rows
theorem wG:typeLookup (.type "list") "keys" = pure none:=by rw[typeLookup_type,builtinLookup_eq_fast];kernel_rfl
theorem Dl 
  (hx:s.heap.get? a=some { cls:=.type "list",dict:=none,data:=.seq xs k,slots:=sl }) (T:A.handled=none)
  (h:∀h' tk,(∀b o,s.heap.get? b=some o->h'.get? b=some o)->Q none { s with heap:=h',toks:=tk }):
  wpAny (model prog w) A (getAttr? (.ref a) "keys") Q E s:=by
 obtain⟨hp,g,d,tk,os⟩:=s;have O:∀M,(⟨hp,g,d,M,os⟩:Shared).TypeIs (.ref a) "list":=λ_=>⟨_,hx,rfl⟩;have f1:=sub_AttributeError;have f3:=slot_list_getattribute.lookup;have f4:=slot_list_getattribute.bind (.ref a);have f5:=am_list_getattr_none;unfold getAttr? getAttrBy? getAttrBy;repeat (any_goals (first|assumption|exact O _|((with_reducible show wpAny _ _ (call (Value.builtin "list.__getattribute__") _ _) _ _ _);refine call_meets slot_list_getattribute (O _) am_entry_list_getattribute (PySem.F.args_list_getattribute_2 _ _) (meets_getattribute_miss_list a xs k sl "keys" _ wG (by decide) (by decide)) ⟨hx,T,λh' M e hx'=>?_⟩)|wp_step))
 obtain⟨t',U,he⟩:=hx'.there;show wpAny _ _ (getattributeRaised _ _ _ _ _ _ _) _ _ _;unfold getattributeRaised;repeat (any_goals (first|assumption|wp_step))
 exact h _ _ hx'.of.keeps
end DL
namespace DL
open PySem PySem.Spec PyProof.Rows L2
def ja:LD->Option (List (dO×D))
 |[]=>some []
 |.tup [k,v]::r=>(lF k).bind λM=>(ja r).map λl=>(M,v)::l
 |_=>none
noncomputable def qF (a:LK×LD)(p:dO×D):LK×LD:=(dL a.1 p.1,dM a.1 a.2 p.1 p.2)
noncomputable def cj (l:List (dO×D)):LK×LD:=l.foldl qF ([],[])
theorem qG (l:List (dO×D))(p:dO×D):cj (l++[p])=qF (cj l) p:=by unfold cj;rw[foldl_append];rfl
theorem qH:∀ {ds:LD}{l:List (dO×D)},ja ds=some l->l.length=ds.length
 |[],l,h=>by simp[ja]at h;subst h;rfl
 |d::r,l,h=>by
  unfold ja at h;split at h
  ·rename_i h0;cases h0
  ·rename_i k v M h0;cases h0
   obtain⟨O,_,h⟩:=oX h;obtain⟨T,h1,rfl⟩:=oY h;simp[qH h1]
  ·cases h
theorem qI:∀ {ds:LD}{l:List (dO×D)}{i:Nat}{d:D},ja ds=some l->ds[i]? = some d->∃k v M,d=.tup [k,v]/\lF k=some M/\l[i]? = some (M,v)
 |[],l,i,d,_,h=>by simp at h
 |d0::r,l,i,d,h,hi=>by
  unfold ja at h;split at h
  ·rename_i h0;cases h0
  ·rename_i k v O h0;cases h0
   obtain⟨M,h2,h⟩:=oX h;obtain⟨T,h1,rfl⟩:=oY h;cases i with
   |zero=>simp at hi;subst hi;exact⟨k,v,M,rfl,h2,rfl⟩
   |succ i=>simp only[List.getElem?_cons_succ]at hi |-;exact qI h1 hi
  ·cases h
theorem Fz (l:List (dO×D)):∀a:LK×LD,a.1.length=a.2.length->(l.foldl qF a).1.length=(l.foldl qF a).2.length/\(l.foldl qF a).1.length<=a.1.length+l.length:=by
 induction l with
 |nil=>intro a h;exact⟨h,vT _⟩
 |cons p l M=>
  intro a h;have h1:(qF a p).1.length<=a.1.length+1:=by
   show(dL _ _).length<=_;unfold dL;split<;>simp
  have:=M (qF a p) (m9 h _ _);rw[foldl_cons,vE];exact⟨this.1,by lia⟩
theorem Dm (l:List (dO×D)):(cj l).1.length=(cj l).2.length/\(cj l).1.length<=l.length:=by
 have:=Fz l ([],[]) rfl;exact⟨this.1,vR this.2 (by simp)⟩
theorem ul:entryFor table "dict.update.loop" = some Builtin.«dict.update.loop»:=entryFor_of_tree (by kernel_rfl)
theorem lf:plainId "dict.update.loop" = true:=by decide +kernel
section
variable {X:Cx}{ae:AO}{σ:St}{B H0:Hp}{A:Around}{R:Result->Shared->Prop}{it l d:Addr}{us:LV}{ds:LD}{jh:List (dO×D)}
theorem Ap (Q:A.handled=none)(nl:l≠it)(nd:d≠it)(hl:fx X.K B l us)(p:IsL X.K B us ds)(hp:ja ds=some jh)
  (hR:∀M N vs ob s',Inv X ae σ (upd M d (.dK ((cj jh).1.zip vs) ob)) s'->M d=none->Ext B N H0 M->(cj jh).1.length=vs.length->IsL X.K N vs (cj jh).2->R (.ok (.ret .none)) s'):
  ∀(k i:Nat)(tk:Nat)(s:Shared)(M N:Hp)(vs:LV)(ob:Obj),ds.length - i=k->i<=ds.length->Inv X ae σ (upd M d (.dK ((cj (jh.take i)).1.zip vs) ob)) s->M d=none->Ext B N H0 M->no X ae (upd M d (.dK ((cj (jh.take i)).1.zip vs) ob)) it ->
   s.heap.IsListIter it l i->(cj (jh.take i)).1.length=vs.length->IsL X.K N vs (cj (jh.take i)).2 ->
   codeAny (model X.prog X.w) A (.builtin "dict.update.loop" ⟨[.ref d,.ref it,.int i tk,.none],[]⟩) R s:=by
 have n1:=p.length;have n2:=qH hp;intro k;induction k with
 |zero=>
  intro i tk s M N vs ob hk hi I hc O fp st hz hv;have S:i=ds.length:=by lia
  have f:aT B (upd M d (.dK ((cj (jh.take i)).1.zip vs) ob)):=(O.bn.trans O.nh).trans (qE hc);obtain⟨its,h,j,t⟩:=I.list (f.seq hl);have e1:=h.length;refine codeAny_builtin ul ?_;rw[Around.under_plainId lf _];show wpAny _ A.in1 (pyNext (.ref it)>>=_) _ _ s;refine wX (wpAny_pyNext_list_end (A:=A.in1) Q st j.isList (by simp;lia) λh' V=>?_);show wpAny _ _ (Builtin.Dict.addKeywords d []>>=_) _ _ _;refine wX (wY (wY ?_));have I1:=m4 (t':=s.toks) (h':=h') (ch:=[it]) I (λb hb=>by rw[uT hb];exact fp) λb o hb e=>V b o (λq=>hb (by simp[q])) e;rw[S,<-n2,take_length]at I1 hz hv;exact hR M N vs ob _ I1 hc O hz hv
 |succ k W=>
  intro i tk s M N vs ob hk hi I hc O fp st hz hv;have m:i<ds.length:=by lia
  have f:aT B (upd M d (.dK ((cj (jh.take i)).1.zip vs) ob)):=(O.bn.trans O.nh).trans (qE hc);obtain⟨its,h,j,t⟩:=I.list (f.seq hl);obtain⟨kd,v,U,ed,ek,Y⟩:=qI hp (vU m);obtain⟨x,hx,y⟩:=p.get (vU m);rw[ed]at y;cases y with
  |@tup T xs _ Z n=>
   cases n with
   |cons ik r=>
    cases r with
    |cons iv r=>
     cases r
     rename_i xk g;have Yi:=qC ik ek;subst Yi;obtain⟨u,hu,ru⟩:=h.get hx;cases (show u=Value.ref T from ru)
     refine codeAny_builtin ul ?_;rw[Around.under_plainId lf _];show wpAny _ A.in1 (pyNext (.ref it)>>=_) _ _ s;refine wX (wpAny_pyNext_list_item (A:=A.in1) st j.isList (x:=.ref T) (by simpa using hu) λh' PV hs=>?_);have I1:=m4 (t':=s.toks) (h':=h') (ch:=[it]) I (λb hb=>by rw[uT hb];exact fp) λb o hb e=>hs.extBut b o (λq=>hb (by simp[q])) e;obtain⟨ps,r2,p2,z2⟩:=I1.tuple (bv f Z);obtain⟨z,C,rfl,rk,rv⟩:=r2.two;have Yj:Shared.TypeIs { s with heap:=h' } (.ref T) "tuple":=by obtain⟨o,e,c,_⟩:=p2;exact⟨o,e,c⟩
     dsimp only;refine wX (wpAny_holding (wX (wpAny_tryCatch ?_)));unfold Builtin.Dict.pairItems;refine wX (wpAny_typeOf Yj ?_);obtain⟨oT,eT,cT,nT,dT⟩:=p2;rw[if_pos (by decide)];refine wX (wpAny_seqItems eT dT (wY ?_));show wpAny _ _ (holding [z,C] (dictSet d z C)) _ _ _;obtain⟨zz,Vr,Yk,E,dd⟩:=pW I1.hok (a:=d) aA;have Yl:Yk.length<=sizeLine:=by rw[<-E.length];exact zz
     have nk:((cj (jh.take i)).1.zip vs).length<sizeLine:=by
      have a1:=(Dm (jh.take i)).2;have a2:=t;rw[length_take]at a1;rw[length_zip];lia
     refine wpAny_holding (wpAny_dictSet_pairs (hsz:=Yl) (pU rk) dd λh2 F G=>?_);have JQ:(jl ((cj (jh.take i)).1.zip vs) U g).length<=sizeLine:=by have:=kj ((cj (jh.take i)).1.zip vs) U g;lia
     obtain⟨H,J⟩:∃q,h2.get? d=some q:=let ⟨q,_,_,hq,_⟩:=F;⟨q,hq⟩;have I2:=vy (t':=s.toks+1) I1 (a:=d) (ob:=.dK (jl ((cj (jh.take i)).1.zip vs) U g) H) (by rw[aA];exact True.intro) G ⟨_,J⟩ (Ep JQ Vr (E.put U rv) F J);rw[Hl,pD hz]at I2;have L:jh.take (i+1)=jh.take i++[(U,v)]:=by rw[take_add_one,Y];rfl
     have P:(cj (jh.take (i+1))).1=dL (cj (jh.take i)).1 U:=by rw[L,qG];rfl
     have Ym:(cj (jh.take (i+1))).2=dM (cj (jh.take i)).1 (cj (jh.take i)).2 U v:=by rw[L,qG];rfl
     refine wY ⟨plainId_quiet lf _,?_⟩;refine W (i+1) 0 _ M N (dM (cj (jh.take i)).1 vs U g) H (by lia) m (by rw[P];exact I2) hc O ?_ ?_ ?_ ?_
     ·obtain⟨f0,f1⟩:=fp;refine⟨?_,f1⟩;rw[aD nd.symm]at f0 |-;exact f0
     ·exact PV.at λo e=>(G.2 it nd.symm).trans e
     ·rw[P];exact m9 hz _ _
     ·rw[Ym];exact hv.put (iv.mono O.bn)
end
@[simp] def jK:LD->OB
 |[.lst ds]=>(ja ds).map λM=>(.dk (cj M).1 (cj M).2,false)
 |_=>none
theorem Mo:bootBuiltins "dict" = some (.type "dict"):=by decide +kernel
section
variable {X:Cx}
theorem Mp (U:X.calm=true):ci X (.type "dict") (CM X.K jK):=by
 intro ae s σ H xs us Q I r h;obtain⟨B,P,d0,bb,c,v,T,q⟩:=h;cases v with
 |nil=>simp[jK]at T
 |cons f w=>
  cases w with
  |cons _ _=>cases f<;>simp[jK]at T
  |nil=>
   cases f<;>try (simp[jK]at T;done)
   rename_i l R ds hl x;simp only[jK]at T;obtain⟨g,hp,T⟩:=oY T;cases T
   obtain⟨u,rfl,y⟩:=hG r;cases y
   have i:X.A.handled=none:=I.ok.hd U;refine callType_codes (Q₁:=λobj O=>obj=.ref s.heap.objs.size/\O={ s with heap:=s.heap.push { cls:=.type "dict",data:=.dict #[] } }) PySem.F.kt_called_dict (PySem.F.kt_typeCall_dict_1 _) PySem.F.entry_dict_init (kt_code_dict_new _ ⟨rfl,rfl⟩) ?_;rintro obj O ⟨rfl,rfl⟩;have I1:Inv X ae σ (upd H s.heap.objs.size (.dK [] { cls:=.type "dict",data:=.dict #[] })) { s with heap:=s.heap.push { cls:=.type "dict",data:=.dict #[] } }:=I.laid (t':=s.toks) (λb o e=>vZ _ e) (vT _) (xJ s.heap I.big);have j:H s.heap.objs.size=none:=I.fresh;have k:Shared.TypeIs { s with heap:=s.heap.push { cls:=.type "dict",data:=.dict #[] } } (.ref s.heap.objs.size) "dict":=⟨_,vY _ rfl,rfl⟩;refine⟨k,PySem.F.args_dict_init_2 _ _,?_⟩;unfold Builtin.«dict.__init__»;refine wX ?_;unfold Builtin.Dict.selfAndRest;refine wX (wpAny_notOrdered_dict k ?_);show wpAny _ _ (pure (s.heap.objs.size,[Value.ref l])) _ _ _;refine wY ?_;show wpAny _ _ (Builtin.Dict.updateFrom "dict.__init__" s.heap.objs.size (.ref l) [] .none) _ _ _;unfold Builtin.Dict.updateFrom;have z:aT B (upd H s.heap.objs.size (.dK [] { cls:=.type "dict",data:=.dict #[] })):=c.trans (qE j);obtain⟨its,S,m,V⟩:=I1.list (z.seq hl);have pl:=m.isList;obtain⟨n,C,M,cl,p,dl⟩:=m;have D:Shared.TypeIs { s with heap:=s.heap.push { cls:=.type "dict",data:=.dict #[] } } (.ref l) "list":=⟨n,M,cl⟩;refine wX (wpAny_typeOf D ?_);rw[if_pos (by decide)];obtain⟨oc,od,W,os⟩:=n;simp only at cl p dl;subst cl p dl;refine wX (Dl M (by exact i) λh' tk hk=>?_);dsimp only[Option.isNone_none];rw[if_pos rfl];have I2:Inv X ae σ (upd H s.heap.objs.size (.dK [] { cls:=.type "dict",data:=.dict #[] })) { s with heap:=h',toks:=tk }:=I1.kept (t':=tk) hk;refine wX (wpAny_rule ?_);refine wX (wpAny_pyIter_list (items:=its.toArray) ⟨_,hk _ _ M,rfl,C,rfl⟩ ?_);have E:Inv X ae σ (upd H s.heap.objs.size (.dK [] { cls:=.type "dict",data:=.dict #[] })) { s with heap:=h'.push { cls:=.type "list_iterator",data:=.fields #[.ref l,.int 0 0] },toks:=tk }:=I2.kept (t':=tk) λb o e=>vZ _ e;have ld:s.heap.objs.size<h'.objs.size:=vX (hk _ _ (vY _ rfl));have G:l<h'.objs.size:=vX (hk _ _ M);refine wY ⟨plainId_quiet lf _,Ap (A:=X.A.in1) (B:=B) (H0:=H) (l:=l) (d:=s.heap.objs.size) (it:=h'.objs.size) i (vS G) (vS ld) hl x hp (λY N vs ob s' J t a hz hv=>?_) _ 0 0 _ H B [] _ rfl (uN _) E j (Ext.refl c) (I2.fpOk (vT _) (I2.hok.fresh (vT _))) ⟨_,vY _ rfl,rfl,rfl⟩ rfl .nil⟩;refine⟨rfl,.ref s.heap.objs.size,_,J,rfl,?_⟩;have L:=a.trans (Ext.laid (o:=.dK ((cj g).1.zip vs) ob) a.nh t);exact q _ _ _ L (.dk aA hz (hv.mono (Ext.laid (o:=.dK ((cj g).1.zip vs) ob) a.nh t).bn)) (by simp)
end
theorem Dn (h:n+40<cLine):n+1<cLine:=by lia
@[simp] noncomputable def Mq:D->D->OB
 |.lst ds,.int k=>if 0<=k/\ds.length*k.toNat<=1000/\k<=1000 then some (.lst (List.replicate k.toNat ds).flatten,true)else none
 |_,_=>none
@[simp] def Dp (fa M:FE):FE:=λρ=>(fa ρ).bind λx=>if x.2=true then (M ρ).bind λy=>Mq x.1 y.1 else none
theorem IsL.rep {K:Frag}{H:Hp}{vs:LV}{ds:LD}(h:IsL K H vs ds):∀k:Nat,IsL K H (List.replicate k vs).flatten (List.replicate k ds).flatten
 |0=>.nil
 |k+1=>by rw[replicate_succ,replicate_succ,flatten_cons,flatten_cons];exact h.append (IsL.rep h k)
section
variable {X:Cx}{a b:Expr}{pos:Pos}
theorem F0 {fa c:FE}(ha:JE X a fa)(hb:JE X b c):JE X (.BinOp a .Mult b pos) (Dp fa c):=by
 refine PE.to (Ee L4 ha hb) λσ H Q q=>?_;obtain⟨B,ρ,d,bb,g,r,M,q⟩:=q;obtain⟨x,ex,M⟩:=oX M;split at M
 ·rename_i hx;obtain⟨⟨h,i⟩,j,M⟩:=oX M;refine⟨B,ρ,x.1,x.2,g,r,ex,λv t N1 U w fr=>⟨N1,ρ,h,i,U.nh,r.mono U.bn,j,λu H2 N2 O l m=>?_⟩⟩;obtain⟨n,vs,ds,rfl,s,h0,h1,e⟩:=fr hx;rw[s]at M;clear m;cases l<;>try (simp[Mq]at M;done)
  rename_i k;simp only[Mq]at M;split at M
  ·rename_i hk;cases M
   have hl:=e.length;refine⟨n,k,vs,rfl,rfl,O.nh _ _ (O.bn _ _ h1),by lia,by lia,by rw[hl];exact vR hk.2.1 (by decide:(1000:Nat)<=sizeLine),λp hp=>?_⟩;have f:=Ext.laid (o:=.lst (List.replicate k.toNat vs).flatten) O.nh hp;have T:=((e.mono O.bn).mono f.bn).rep k.toNat;exact q _ _ _ ((U.trans O).trans f) (.lst (fx.of aA) T) λ_=>⟨_,_,_,rfl,rfl,(U.trans O).hh.free hp,aA,T⟩
  ·cases M
 ·cases M
end
def iP:LD->Option LK
 |[]=>some []
 |d::ds=>(lF d).bind λk=>(iP ds).map (k :: ·)
theorem Aq {K:Frag}{B:Hp}:∀ {vs:LV}{ds:LD}{ks:LK},IsL K B vs ds->iP ds=some ks->vs=ks.map kV
 |_,_,ks,.nil,e=>by simp[iP]at e;subst e;rfl
 |_,_,ks,.cons i is,e=>by
  simp only[iP]at e;obtain⟨k,h1,e⟩:=oX e;obtain⟨r,h2,rfl⟩:=oY e;rw[qC i h1,Aq is h2];rfl
@[simp] def F3 (O:FE)(fa:FA):FE:=λρ=>(O ρ).bind λx=>(fa ρ).bind λds=>match x.1 with
 |.dt M vs=>if ds.length<=sizeLine then (iP ds).map λk=>((cu M vs k).getD .non,false)else none
 |_=>none
section
variable {X:Cx}{o:Expr}{es:QD}{pos:Pos}
theorem F4 {dI cL O:Pos}{T:Nat}{e:FE}{fa:FA}(hu:X.A.units+1<cLine)(g:JE X o e)(ha:JA X es fa)(m:M1 X o "get" dI (.Tuple es T O) cL):JE X (.Call (.Attribute o "get" dI) [.Tuple es T O] [] cL) (F3 e fa):=by
 refine PE.to (xL hu g (zH ha) m) λσ H Q q=>?_;obtain⟨B,ρ,d,bb,i,r,M,q⟩:=q;obtain⟨x,ex,M⟩:=oX M;obtain⟨ds,j,M⟩:=oX M;refine⟨B,ρ,x.1,x.2,i,r,ex,λv u N1 T l w=>?_⟩;obtain⟨xd,y⟩:=x;cases l with
 |@dt a ks vs z h hl hs=>
  simp only at M;split at M
  ·rename_i hz;obtain⟨k,hk,M⟩:=oY M;cases M
   refine⟨a,rfl,.inr ⟨_,.inl (T.nh _ _ h)⟩,N1,ρ,ds,T.nh,r.mono T.bn,j,λus H2 N2 b f=>?_⟩;have hv:=Aq f hk;have n:us.length<=sizeLine:=by rw[f.length];exact hz
   refine⟨n,λp hp=>?_⟩;have U:=Ext.laid (o:=.tup us) b.nh hp;have s:N2 a=some (.dT (ks.zip vs)):=b.bn _ _ h;refine⟨fL (ks.zip vs) k,.inr ⟨_,k,p,.inl (U.nh _ _ (U.bn _ _ s)),rfl,by rw[aA,hv],rfl⟩,?_⟩;have t:=(hs.mono b.bn).mono U.bn;rcases qD k hl t with⟨v,d',c,e2,i3⟩|⟨c,e2⟩
   ·rw[c];rw[e2]at q;exact(q.into ((T.trans b).trans U)).one U.nh i3
   ·rw[c];rw[e2]at q;exact(q.into ((T.trans b).trans U)).one U.nh .non
  ·cases M
 |_=>simp at M
end
section
variable {K:Frag}{E:Ends}{σ:St}{H:Hp}
def um (i:Nat)(O:FA)(T:FE):FS:=λρ=>match ρ[i]? with
 |some (some (.dt ks vs,true))=>(T ρ).bind λv=>(O ρ).bind λkd=>(iP kd).bind λM=>if bB v.1=true/\ks.length<sizeLine/\kd.length<=sizeLine then some (.nx (ρ.set i (some (.dt (dL ks M) (dM ks vs M v.1),true))))else none
 |_=>none
theorem F5 {i:Nat}{O:FA}{T:FE}(q:ny K (um i O T) E σ H):AN (pP i) (Oq (Nv K O)) (tD K T) E σ H:=by
 obtain⟨B0,H0,ρ,r,⟨N,s⟩,e,p⟩:=q;unfold um at e;split at e
 ·rename_i ks ds ei;obtain⟨v,d,e⟩:=oX e;obtain⟨kd,ek,e⟩:=oX e;obtain⟨f,hk,e⟩:=oX e;split at e
  ·rename_i hx;cases e
   refine⟨N,ρ,v.1,v.2,s.ext.nh,s.rep,d,λk l N1 g h _=>?_⟩;have s1:=s.grow g;obtain⟨a,o,h1,h2,h3,h4⟩:=s1.ow i _ ei;refine⟨.ref a,h1,N1,ρ,kd,s1.ext.nh,s1.rep,ek,λus H2 N2 U b=>?_⟩;have s2:=s1.grow U;have hv:=Aq b hk;refine⟨by rw[b.length];exact hx.2.2,λpp hp=>?_⟩;have c:=Ext.laid (o:=.tup us) s2.ext.nh hp;have M:=s2.grow c;obtain⟨m,o',k1,k2,n,j⟩:=M.ow i _ ei;rw[h1]at k1;cases k1
   cases j with
   |@dt ks vs ds hl h5=>
    refine⟨a,rfl,.inr ⟨_,f,pp,M.ext.nh _ _ k2,rfl,by rw[aA,hv],?_,?_⟩⟩
    ·rw[length_zip];lia
    ·rw[pD hl];exact p σ _ ⟨_,M.writeB ei h1 (.dt (m9 hl _ _) (h5.put (M.flat ((h.mono U.bn).mono c.bn) hx.1)))⟩
  ·cases e
 ·cases e
end
section
variable {X:Cx}{pos:Pos}{e:Expr}{es:QD}
theorem IL (hu:X.A.units+1<cLine)(hv:JE X e U)(hk:JA X es fk)(T:X.N[i]? = some y:=by rfl)(M:KP X.env.scope y:=by first|exact Or.inl rfl|exact Or.inr (Or.inl rfl)|exact Or.inr (Or.inr rfl))(hd:(y == ("__debug__" : Str))=false:=by decide)
  (O:(y == ("__classdict__" : Str))=false:=by decide) (hs:swapsWith e (some (.Subscript (.Name y py) (.Tuple es x1 ML) pt)) pos.line X.env=pure false:=by rfl):JS X (.Assign [.Subscript (.Name y py) (.Tuple es x1 ML) pt] e pos) (um i fk U) :=
 PS.to (p7 hu (cF T M hd O) (zH hk) hv hs) λ_ _ _ q=>F5 q
end
end DL
namespace L2
open PySem PySem.Spec PyProof.Rows
noncomputable def Sc (a:Addr)(aL:List (dO×V))(ob:Obj):It:=⟨λi H=>H a=some (.dK aL ob)/\i<aL.length,λi H x H'=>H'=H/\∃k,aL[i]? = some (k,x),λi H=>H a=some (.dK aL ob)/\aL.length<=i⟩
theorem KV.get {aL:List (dO×V)}{vs:List (dO×Value)}(r:KV aL vs){i:Nat}{k:dO}{x:V}(h:aL[i]? = some (k,x)):∃u,vs[i]? = some (k,u)/\aZ x u:=by
 unfold KV at r;induction r generalizing i with
 |nil=>simp at h
 |@cons p q ps U hq t M=>
  cases i with
  |zero=>
   cases (show p=(k,x)from vK h)
   obtain⟨O,T⟩:=q;exact⟨T,by rw[show k=O from hq.1];rfl,hq.2⟩
  |succ i=>exact M h
theorem OX (h:(c6 P w).is k u=true):aZ (kV k) u:=by
 cases k with
 |inl i=>exact Value.isInt_shape h
 |inr z=>exact Value.isStrOf_shape h
section
variable {P:Program}{w:World}{H:Hp}{h:Heap}{a:Addr}
theorem qJ (ok:lx P w H h)(e:H a=some (.dK aL ob))(hd:ob.data=.dict es T):∃vs,KV aL vs/\h.DictAt (c6 P w) a vs T:=by
 obtain⟨_,_,vs,r,o,M,O,h1,h2,h3,h4⟩:=pW ok e;rw[zP ok e]at h1;cases h1
 rw[hd]at h3;cases h3
 exact⟨vs,r,ob,es,zP ok e,h2,hd,h4⟩
theorem wH (ok:lx P w H h)(e:H a=some (.dK aL ob)):∃es T,ob.data=.dict es T:=by
 obtain⟨_,_,vs,r,o,M,O,h1,h2,h3,h4⟩:=pW ok e;rw[zP ok e]at h1;cases h1
 exact⟨M,O,h3⟩
end
theorem Dq {P:Program}{w:World}{K:Frag}{tg:Expr}(a it:Addr)(aL:List (dO×V))(ob:Obj){es:Array DictEntry}{j:Nat}(hd:ob.data=.dict es j):Turn P w K tg (Sc a aL ob) [it] it (λi h=>h.IsValIter it a i aL.length j) where
 mem:=by simp
 obj:=λi h st b hb=>by
  have e:b=it:=by simpa using hb
  subst e;obtain⟨o,e,c,d⟩:=st;exact⟨o,e,λv z=>by rw[d]at z;cases z⟩
 keep:=λi h h' st k=>st.at λo e=>k it (by simp) o e
 item:=by
  intro X T hw U hc i ae s σ H E I hf st f;subst T hw U;obtain⟨g,O⟩:=f;obtain⟨vs,r,m⟩:=qJ I.hok g hd;obtain⟨f0,f1,f2,f3,f4,f5⟩:=hf it (by simp);have hl:vs.length=aL.length:=(Paired.length r).symm;obtain⟨u,hu,ru⟩:=r.get (k:=aL[i].1) (x:=aL[i].2) (vU O);refine wpAny_pyNext_values_item (by rw[hl];exact st) m hu λh' M l=>?_;rw[hl]at M;have I1:Inv X ae σ H { s with heap:=h' }:=I.turned (t':=s.toks) (λb o hb e=>(l.2 b hb).trans e) f0 f1 f3 f4 f5;obtain⟨o,e,c,d⟩:=id M;exact⟨u,rfl,t7 (s:={ s with heap:=h' }) e c d (by decide) ⟨aL[i].2,H,I1,ru,⟨rfl,aL[i].1,vU O⟩,M,λb hb=>(hf b hb).1⟩⟩
 done:=by
  intro X T hw U hc i ae s σ H E I hf st f;subst T hw U;obtain⟨g,p⟩:=f;obtain⟨vs,r,m⟩:=qJ I.hok g hd;obtain⟨f0,f1,f2,f3,f4,f5⟩:=hf it (by simp);have hl:vs.length=aL.length:=(Paired.length r).symm;exact wpAny_pyNext_values_end (I.ok.hd hc) (by rw[hl];exact st) m (getElem?_eq_none (by lia)) λh' n=>⟨rfl,I.turned (t':=s.toks) (λb o hb e=>n b o hb e) f0 f1 f3 f4 f5⟩
 self:=λ_ _ _ _ _ st h=>wpAny_pyIter_valiter st h
section
variable {X:Cx}{tg:Expr}
def OY (O:TE):TI:=λσ H R=>O σ H λx M=>∃a aL ob,x=.ref a/\M a=some (.dK aL ob)/\R (Sc a aL ob) M
theorem IM {o:Expr}{c:TE}{dI cL:Pos}(g:PE X o c)(M:attributeBase o "values" X.env (eval o X.env)=eval o X.env:=by rfl)(O:(dI.endLine == cL.line)=true:=by rfl):PI X tg (.Call (.Attribute o "values" dI) [] [] cL) (OY c):=by
 intro ae s σ H R I h;refine wpAny_Call_method0_late M O (cA (g ae s σ H _ I h) λv s1 ⟨x,d,I1,f,a,aL,ob,ex,U,q⟩=>?_);subst ex;obtain⟨h1,h2⟩:=zO I1 f (T:="dict") (.inr (.inr (.inl ⟨rfl,.inl ⟨aL,ob,U⟩⟩)));cases f
 obtain⟨es,i,hd⟩:=wH I1.hok U;obtain⟨vs,r,m⟩:=qJ I1.hok U hd;have hl:vs.length=aL.length:=(Paired.length r).symm;refine⟨"dict","dict.values",plainAttrs_dict,PySem.F.slot_dict_values,PySem.F.type_dict_values,h1,h2,Calls.callWith_builtin rfl (PySem.evalArgs_none ?_)⟩;refine call_meetsIn PySem.F.slot_dict_values h1 PySem.F.entry_dict_values (PySem.F.args_dict_values_1 _) (meets_dict_values (c6 X.prog X.w) a (pW I1.hok U).2.1) ⟨⟨vs,m.dictOf⟩,?_⟩;have I2:Inv X ae σ d { s1 with heap:=s1.heap.push { cls:=.type "dict_values",data:=.fields #[.ref a] } }:=I1.kept (t':=s1.toks) λb o e=>vZ _ e;refine wpAny_pyIter_values (v:=s1.heap.objs.size) ⟨_,vY _ rfl,rfl,rfl⟩ (m.keep λb o e=>vZ _ e) ?_;rw[hl];refine⟨(s1.heap.push { cls:=.type "dict_values",data:=.fields #[.ref a] }).objs.size,[(s1.heap.push { cls:=.type "dict_values",data:=.fields #[.ref a] }).objs.size],_,_,d,rfl,I2.kept (t':=s1.toks) λb o e=>vZ _ e,Dq a _ aL ob hd,⟨_,vY _ rfl,rfl,rfl⟩,λb hb=>?_,q⟩;have e:b=(s1.heap.push { cls:=.type "dict_values",data:=.fields #[.ref a] }).objs.size:=by simpa using hb
 subst e;exact I2.fpOk (vT _) (I2.hok.fresh (vT _))
end
end L2
namespace DL
open PySem PySem.Spec PySem.W PyProof.Rows L2
noncomputable def kD:dO->D
 |.inl i=>.int i
 |.inr z=>.str z
theorem OZ {K:Frag}{B:Hp}(k:dO):Is K B (kV k) (kD k):=by
 cases k with
 |inl i=>exact .int i
 |inr z=>exact .str z
section
variable {K:Frag}{B:Hp}
theorem IN {a:Addr}{ks:LK}{vs:LV}{ds:LD}{ob:Obj}(h:B a=some (.dK (ks.zip vs) ob))(hl:ks.length=vs.length)(hs:IsL K B vs ds):lL K (Sc a (ks.zip vs) ob) B ds:=by
 intro i H s;have hz:(ks.zip vs).length=vs.length:=by rw[length_zip];lia
 refine⟨λd ed=>?_,λM=>⟨s _ _ h,by rw[hz,hs.length];exact M⟩⟩;obtain⟨v,T,iv⟩:=hs.get ed;have O:i<vs.length:=(vV T).1;refine⟨⟨s _ _ h,by rw[hz];exact O⟩,λy U hy=>?_⟩;obtain⟨rfl,k,e⟩:=hy;have:=(getElem?_zip_eq_some.mp e).2;rw[T]at this;cases this
 exact⟨B,.refl s,iv⟩
end
section
variable {X:Cx}{e:Expr}{tg:Expr}
@[simp] noncomputable def qK (f:FE):FA:=λρ=>(f ρ).bind λx=>match x.1 with|.dk _ ds=>some ds|_=>none
theorem B4 (h:JE X e f)(M:attributeBase e "values" X.env (eval e X.env)=eval e X.env:=by rfl)(O:(dI.endLine == cL.line)=true:=by rfl):JI X tg (.Call (.Attribute e "values" dI) [] [] cL) (qK f):=by
 intro ae s σ H R I q;obtain⟨B,ρ,ds,U,r,b,q⟩:=q;obtain⟨⟨xd,g⟩,ex,es⟩:=oX b;cases xd<;>try (cases es;done)
 cases es
 refine IM h M O ae s σ H R I ⟨B,ρ,_,_,U,r,ex,λv c N1 T d _=>?_⟩;cases d with
 |@dk a ks vs ds ob hd hl hs=>exact⟨a,_,ob,rfl,T.nh _ _ hd,q _ c N1 T (IN hd hl hs)⟩
end
end DL
namespace DL
open PySem PySem.Spec PyProof.Rows L2
@[simp] abbrev dE (i:Nat)(j:Int):FE:=f2 bD (ai i) (fC (.int j))
theorem bf (F:Fn X.prog X.w X.K X.mg X.base k x f)(hr:eQ j X.A)(ha:JA X (e::es) fa)(hj:k<=j:=by decide)(T:Gl X x:=by rfl)(M:(x == ("__debug__" : Str))=false:=by decide)(he:starEach (e::es) X.env=(false,eval e X.env)::starEach es X.env:=by rfl)(O:(backTo U (starEach es X.env)).any (·.1)=false:=by rfl):JE X (.Call (.Name x p) (e::es) [] U) (fA f fa):=AT F (hr.mono hj) ha T M he O
theorem IP (h1:∀y∈scope.names,y.2≠.cell:=by decide +kernel)(h2:scope.kind=.function:=by rfl)(h3:∀y∈scope.names,y.2=.local->scope.names.lookup y.1=some .local:=by decide +kernel)(M:(scope.names.all λy=>!(y.2 == NameKind.free) || (X.env.cells.lookup y.1).isSome)=true:=by rfl):CompSc X scope (dm scope.names X.env.cells []):=LH h1 h2 h3 M
theorem QH (h1:N'[j]? = some x)(h2:X.N[i]? = some x)(t:kQ X N' scope (dm scope.names X.env.cells []) (j+1) r)(h3:X.env.kindOf x=some .cell\/X.env.kindOf x=some .free:=by exact Or.inl rfl)(h4:(relabel scope X.env).names.lookup x=some .cell\/(relabel scope X.env).names.lookup x=some .free:=by exact Or.inl rfl)(hf:(x,NameKind.free)∈scope.names:=by decide +kernel)(hc:(X.env.cells.lookup x).isSome=true:=by rfl):kQ X N' scope (dm scope.names X.env.cells []) j (i::r):=.cons h1 h2 h3 h4 (p8 hf hc) t
end DL
namespace DL
open PySem PySem.Spec PySem.W PyProof.Rows L2
noncomputable def nL:At->D
 |.i n=>.int n
 |.s z=>.str z
section
variable {prog:Program}{w:World}{A:Around}{E:QV}{s:Shared}
theorem Pa (hx:zB x u)(hy:zB y v):SeqAt.EqAt A s u v (cJ (nL x) (nL y)):=by
 cases x with
 |i a=>
  obtain⟨t,rfl⟩:=hx;cases y with
  |i c=>obtain⟨t',rfl⟩:=hy;simp only[nL,cJ];exact SeqAt.EqAt.int_int _ _ _ _
  |s c=>obtain⟨t',rfl⟩:=hy;simp only[nL,cJ];exact SeqAt.EqAt.int_str _ _ _ _
 |s a=>
  obtain⟨t,rfl⟩:=hx;cases y with
  |i c=>obtain⟨t',rfl⟩:=hy;simp only[nL,cJ];exact SeqAt.EqAt.str_int _ _ _ _
  |s c=>obtain⟨t',rfl⟩:=hy;simp only[nL,cJ];exact SeqAt.EqAt.str_str _ _ _ _
theorem B5:∀ {xs ys:List At}{vs:LU},Paired zB xs vs->Paired zB ys vs->xs=ys
 |_,_,_,.nil,.nil=>rfl
 |x::xs,y::ys,_,.cons p ps,.cons q M=>by
  rw[B5 ps M];congr 1;cases x with
  |i a=>
   obtain⟨t,rfl⟩:=p;cases y with
   |i c=>obtain⟨t',e⟩:=q;cases e;rfl
   |s c=>obtain⟨t',e⟩:=q;cases e
  |s a=>
   obtain⟨t,rfl⟩:=p;cases y with
   |i c=>obtain⟨t',e⟩:=q;cases e
   |s c=>obtain⟨t',e⟩:=q;cases e;rfl
theorem Mr (x y:At):cJ (nL x) (nL y)=true↔x=y:=by
 cases x<;>cases y<;>simp[nL]
theorem pE:∀xs ys:List At,fJ (xs.map nL) (ys.map nL)=true↔xs=ys
 |[],[]=>by simp[fJ]
 |[],_::_=>by simp[fJ]
 |_::_,[]=>by simp[fJ]
 |x::xs,y::ys=>by
  rw[uY,uY,fJ,vC,Mr,pE xs ys];simp
theorem Ms (hx:ia s.heap xs x)(hy:ia s.heap ys y)(hu:A.units<cLine):SeqAt.EqAt A s x y (fJ (xs.map nL) (ys.map nL)):=by
 obtain⟨a,o,its,n,rfl,e,hc,hd,r⟩:=hx;obtain⟨b,o',M,m,rfl,O,f,T,c⟩:=hy;by_cases U:a=b
 ·subst U;rw[e]at O;cases O;rw[hd]at T;cases T;rw[B5 r c,(pE ys ys).mpr rfl];exact SeqAt.EqAt.same _
 ·have g:s.heap.IsTuple a its:=⟨o,e,hc,n,hd⟩;have h:s.heap.IsTuple b M:=⟨o',O,f,m,T⟩;have k:xs.length=its.size:=by rw[<-vG];exact gg r
  have l:ys.length=M.size:=by rw[<-vG];exact gg c
  have he:∀j (h1:j<its.size) (h2:j<M.size),SeqAt.EqAt A.in1 s its[j] M[j] (cJ ((xs.map nL).getD j .non) ((ys.map nL).getD j .non)):=λj h1 h2=>by
   have p:=fz (.i 0) Value.none r (i:=j) (by lia);have q:=fz (.i 0) Value.none c (i:=j) (by lia);have d:its.toList.getD j Value.none=its[j]:=by rw[vF,getElem?_toList,getElem?_eq_getElem h1];rfl
   have e2:M.toList.getD j Value.none=M[j]:=by rw[vF,getElem?_toList,getElem?_eq_getElem h2];rfl
   rw[d]at p;rw[e2]at q;have t:(xs.map nL).getD j .non=nL (xs.getD j (.i 0)):=by simp[vF,show j<xs.length by lia]
   have u:(ys.map nL).getD j .non=nL (ys.getD j (.i 0)):=by simp[vF,show j<ys.length by lia]
   rw[t,u];exact Pa p q
  have rc:=SeqAt.RcAt.tuples g h hu he;have v:((List.range (min its.size M.size)).all (λj=>cJ ((xs.map nL).getD j .non) ((ys.map nL).getD j .non)) && its.size == M.size)=fJ (xs.map nL) (ys.map nL):=by
   rw[<-k,<-l];by_cases hl:xs.length=ys.length
   ·rw[<-hl,Nat.min_self,beq_self_eq_true,Bool.and_true];have:=jE (λj=>cJ ((xs.map nL).getD j .non) ((ys.map nL).getD j .non)) (xs:=xs.map nL) (ys:=ys.map nL) (by simpa using hl) λj x y d e2=>wj j x y d e2;rwa [vI]at this
   ·rw[wg (by simpa using hl),beq_eq_false_iff_ne.mpr hl,Bool.and_false]
  rw[v]at rc;exact SeqAt.EqAt.of_refs U rc
theorem Dr (xs:List At):bq xs xs=some false:=by
 induction xs with
 |nil=>rfl
 |cons x xs M=>cases x<;>rw[bq,if_pos rfl,M]
theorem F6 (hx:ia s.heap xs x)(hy:ia s.heap ys y)(h:bq (.i n::xs) (.i m::ys)=some b)(hu:A.units<cLine)(q:Q b s)(hn:zB (.i n) u)(hm:zB (.i m) v):KatLex prog w A true false Q [(u,v),(x,y)] 0 s:=by
 obtain⟨t,rfl⟩:=hn;obtain⟨t',rfl⟩:=hm;refine kat_cons (wpAny_eqBool_int ?_);rw[bq]at h;by_cases e:n=m
 ·rw[if_pos e]at h;rw[show(n == m)=true by simp[e]];refine kat_yes (kat_cons (Ms hx hy hu _ _ _ _ ?_));by_cases e2:xs=ys
  ·rw[(pE xs ys).mpr e2];rw[e2,Dr]at h;cases h
   exact kat_yes (kat_nil q)
  ·rw[eq_false_iff.mpr λz=>e2 ((pE xs ys).mp z)];refine kat_no (kat_one _ _ ?_);show wpAny _ _ (richCompare .Lt x y) _ _ _;exact Fo (Q:=W.BoolBack Q) hx hy h hu (by first|exact q|exact⟨b,rfl,q⟩)
 ·rw[if_neg e]at h;cases h
  rw[show(n == m)=false by simp[e]];exact kat_no (oneLt_int q)
end
def Ds (h:Heap)(xs:List At)(v:Value):Prop:=∃n k a o its m u x,xs=.i n::k/\v=.ref a/\h.get? a=some o/\o.cls=.type "tuple"/\o.data=.seq its m/\its.toList=[u,x]/\zB (.i n) u/\ia h k x
section
variable {prog:Program}{w:World}{A:Around}{E:QV}{s:Shared}
theorem IQ (hx:Ds s.heap xs x)(hy:Ds s.heap ys y)(h:bq xs ys=some b)(hu:A.units<cLine)(q:Q b s):wpAny (model prog w) A (keyLt' (tuples' true) x y) Q E s:=by
 obtain⟨n,k,a,o,its,m,u,e,rfl,rfl,c,_,hd,ei,an,d⟩:=hx;obtain⟨f,k',g,o',its',i,j,l,rfl,rfl,O,_,T,M,U,ty⟩:=hy;refine kat_lt c hd O T ?_;rw[ei,M];have hf:decide (its.size<its'.size)=false:=by
  rw[<-vG,<-vG,ei,M];rfl
 rw[hf];exact F6 d ty h hu q an U
theorem oB:∀ {ks:List (List At)}{vs:LU},Paired (Ds h) ks vs->∃fs,KatTups h vs fs/\fs.length=ks.length/\∀v∈fs,∃n,zB (.i n) v
 |_,_,.nil=>⟨[],trivial,rfl,by simp⟩
 |k::ks,_,.cons x t=>by
  obtain⟨fs,h1,h2,h3⟩:=oB t;obtain⟨n,k,a,o,its,m,u,O,rfl,rfl,M,hc,hd,ei,an,_⟩:=x;refine⟨u::fs,KatTups.cons M hc hd (by rw[<-getElem?_toList,ei];rfl) h1,by simp[h2],λv hv=>?_⟩;rcases vP hv with rfl|hv
  ·exact⟨n,an⟩
  ·exact h3 v hv
theorem Dt (hp:Paired (Ds s.heap) ks vs)(hn:0<ks.length)(q:Q (tuples' true) s):wpAny (model prog w) A (keyKind' vs.toArray) Q E s:=by
 obtain⟨fs,h1,h2,h3⟩:=oB hp;refine kat_kind (T:=.type "int") h1 (by lia) (λv hv=>?_) (by decide) q;obtain⟨n,t,rfl⟩:=h3 v hv;exact .now
theorem F7 (hc:eK ks=true)(hu:A.units<cLine)(hp:Paired (Ds s.heap) ks vs):∀(i j:Nat)(C:Bool->Shared->Prop)(s1:Shared),i<ks.length->j<ks.length->s1=s->(∀s',s'=s->C (qu (He ks) i j) s')->kas_ask prog w A (tuples' true) vs i j C s1:=by
 intro i j C s1 hi hj e O;subst e;unfold kas_ask;have M:ks.getD i []∈ks:=by rw[vF,vU hi];exact getElem_mem hi
 have T:ks.getD j []∈ks:=by rw[vF,vU hj];exact getElem_mem hj
 refine IQ (fz [] Value.none hp hi) (fz [] Value.none hp hj) (gW hc M T) hu ?_;have:=O s1 rfl;unfold qu He at this;rw[yy (uS ⟨_,M,rfl⟩)]at this;exact this
end
def Mt:D->Option (List At)
 |.tup [.int n,.tup es]=>(jJ es).map (.i n :: ·)
 |_=>none
def jw:LD->Option (List (List At))
 |[]=>some []
 |d::ds=>(Mt d).bind λa=>(jw ds).map (a :: ·)
theorem uo:∀ {ds:LD}{ks:List (List At)},jw ds=some ks->ks.length=ds.length
 |[],_,h=>by simp only[jw]at h;cases h;rfl
 |d::ds,_,h=>by
  simp only[jw]at h;obtain⟨a,h1,h⟩:=oX h;obtain⟨r,h2,h⟩:=oY h;subst h;simp[uo h2]
theorem yC (I:Inv X ae σ H s):∀ {ys:LV}{ds:LD}{ks:List (List At)}{its:LU},bj ys its->IsL X.K H ys ds->jw ds=some ks->Paired (Ds s.heap) ks its
 |_,_,_,_,.nil,.nil,h=>by simp only[jw]at h;cases h;exact .nil
 |_,_,_,_,.cons r U,.cons i b,h=>by
  simp only[jw]at h;obtain⟨a,h1,h⟩:=oX h;obtain⟨t,h2,h⟩:=oY h;subst h;refine .cons ?_ (yC I U b h2);unfold Mt at h1;split at h1
  ·rename_i n es;obtain⟨k,O,rfl⟩:=oY h1;cases i with
   |tup hq hl=>
    cases r
    obtain⟨its',M,⟨o,c,hc,m,hd⟩,_⟩:=I.tuple hq;cases hl with
    |cons d hl=>
     cases hl with
     |cons e hl=>
      cases hl
      cases M with
      |cons f M=>
       cases M with
       |cons g M=>
        cases M
        cases d
        have hk:dJ [D.tup es]=some [k]:=by show(jJ es).bind _=_;rw[O];rfl
        have T:=pA I (.cons g .nil) (.cons e .nil) hk;cases T with
        |cons T _=>exact⟨n,k,_,o,_,m,_,_,rfl,rfl,c,hc,hd,rfl,f,T⟩
  ·cases h1
theorem IS (hu:A.units<cLine):KK X A jw λ_=>true:=⟨uo,λI _ _ _ _ r i e _ hc=>have hp:=yC I r i e;⟨λhn _ _ q=>Dt hp hn q,F7 hc hu hp⟩⟩
theorem F8 (hu:X.A.units+40<cLine):KK X X.A.in1.in1 jw λ_=>true:=IS (show X.A.units+1+1<cLine by lia)
@[simp] abbrev Ar:FE->(Env->D->Option D)->FE:=wF jw λ_=>true
end DL
namespace DL
open PySem PySem.Spec PyProof.Rows L2
def Pb:Nat->(LU->Prop)->Prop
 |0,P=>P []
 |n+1,P=>∀a,Pb n λl=>P (a::l)
theorem IT:∀n P,Pb n P->∀us:LU,us.length=n->P us
 |0,_,h,[],_=>h
 |n+1,_,h,a::us,e=>IT n _ (h a) us (Nat.succ.inj e)
section
variable {P:Program}{w:World}{K:Frag}{mg:SV}{base:Heap}
def KC (K:Frag)(mg:SV)(x:Str)(c:D):Prop:=∃u v,mg x=some u/\aZ v u/\∀B,Is K B v c
def KD (w:World)(K:Frag)(mg:SV)(x:Str)(c:List (Str×D)):Prop:=∃d,mg x=some (.ref d)/\tR K w.params d c
theorem kc_of {x:Str}{c:D}{h:Heap}(X:K.In h)(G:h.Ns mainGlobals mg)(k:∃u v,nsIn K mainGlobals x=some (some u)/\aZ v u/\∀B,Is K B v c):KC K mg x c:=let ⟨u,v,e,r⟩:=k;⟨u,v,mg_of X G e,r⟩
theorem kd_of {x:Str}{c:List (Str×D)}{h:Heap}(X:K.In h)(G:h.Ns mainGlobals mg)(k:∃d,nsIn K mainGlobals x=some (some (.ref d))/\tR K w.params d c):KD w K mg x c:=let ⟨d,e,r⟩:=k;⟨d,mg_of X G e,r⟩
theorem dB.fqL {x:Str}{st:Stmt}{k:Nat}{O:LD->OB}(F:dB K x st)(B:∃h,K.In h/\h.Ns mainGlobals mg)(g:FS)(N:LS)(n:Nat)
  (hb:∀ {f:Addr}{dG:Value}{A:Around}{outer:List PySem.Env}{s:Shared}{H:Hp}{E:XK},N.Nodup->eQ k (A.deeper (envOfC x (aP st) s.heap.objs.size f dG))->(A.deeper (envOfC x (aP st) s.heap.objs.size f dG)).units+40<cLine->(∀c P,PySem.W.tabIn K x=some (c,P)->dG=.ref c)->z7 (nu xr P w K mg base N x (aP st) f dG A outer s H E).nox (cB st) g)
  (S:FnScope N (N.take n) (aP st):=by refine⟨rfl,rfl,rfl,?_,rfl,?_,?_⟩<;>decide +kernel)
  (M:∀(kV doc pm:Value)(an:Option Addr)(dG ct:Value)(us:LU),us.length=(N.take n).length->bindArgs (fnOf x x (fK st) (cB st) (aP st) .none kV doc pm an dG ct) ⟨us,[]⟩=pure ((N.take n).zip us):=by
   exact λ_ _ _ _ _ _=>IT _ _ (by(repeat intro);rfl))
  (e:aS g (N.take n).length (N.length - (N.take n).length)=O:=by rfl):
  Fn P w K mg base (k+1) x O:=let ⟨_,X,G⟩:=B;e ▸ F.fnL X G S M λ_ _ _ _ _ _ _ hc hr=>hb S.nd hr (zU hr) hc
theorem dB.fq {x:Str}{st:Stmt}{k:Nat}{O:LD->OB}(F:dB K x st)(B:∃h,K.In h/\h.Ns mainGlobals mg)(g:FS)(N:LS)(n:Nat)
  (hb:∀ {f:Addr}{dG:Value}{A:Around}{outer:List PySem.Env}{s:Shared}{H:Hp}{E:XK},N.Nodup->eQ k (A.deeper (envOfC x (aP st) s.heap.objs.size f dG))->(A.deeper (envOfC x (aP st) s.heap.objs.size f dG)).units+40<cLine->z7 (nu xr P w K mg base N x (aP st) f dG A outer s H E).nox (cB st) g)
  (S:FnScope N (N.take n) (aP st):=by refine⟨rfl,rfl,rfl,?_,rfl,?_,?_⟩<;>decide +kernel)
  (M:∀(kV doc pm:Value)(an:Option Addr)(dG ct:Value)(us:LU),us.length=(N.take n).length->bindArgs (fnOf x x (fK st) (cB st) (aP st) .none kV doc pm an dG ct) ⟨us,[]⟩=pure ((N.take n).zip us):=by
   exact λ_ _ _ _ _ _=>IT _ _ (by(repeat intro);rfl))
  (e:aS g (N.take n).length (N.length - (N.take n).length)=O:=by rfl):
  Fn P w K mg base (k+1) x O:=F.fqL B g N n (λn r u _=>hb n r u) S M e
end
section
variable {X:Cx}{x:Str}{pos:Pos}
theorem DZ (i:Nat)(M:X.N.Nodup)(hi:X.N[i]? = some x:=by rfl)(hx:GY X.env.scope x:=by first|exact Or.inl rfl|exact Or.inr rfl)(hf:X.fn x=true\/X.env.scope.names.lookup x=some .local:=by first|exact .inl rfl|exact .inr rfl):PG X (.Name x pos) (gZ i):=AH M hi hx hf
theorem Hf {fp}(i:Nat)(M:N'.Nodup:=by decide +kernel)(hi:(fH X N' scope cl C s H fp).N[i]? = some x:=by rfl)(hx:GY (fH X N' scope cl C s H fp).env.scope x:=by exact Or.inl rfl)(hf:(fH X N' scope cl C s H fp).fn x=true\/(fH X N' scope cl C s H fp).env.scope.names.lookup x=some .local:=by first|exact .inl rfl|exact .inr rfl):PG (fH X N' scope cl C s H fp) (.Name x pos) (gZ i):=AH M hi hx hf
theorem fG (N':LS)(hi:JI X tg dr fi)(hc:∀ {C s H fp},JC (fH X N' scope (dm scope.names X.env.cells []) C s H fp) pM fc)(he:∀ {C s H fp},JE (fH X N' scope (dm scope.names X.env.cells []) C s H fp) ng fe)
  (O:E4 X.K nT tgF g:=by first|exact mv (by decide)|exact EQ (by decide)) (T:∀ {C s H fp},PG (fH X N' scope (dm scope.names X.env.cells []) C s H fp) tg g:=by intros;first|exact Hf 0|exact vi rfl (gz (Hf 0) (gz (Hf 1) p6)))
  (U:kQ X N' scope (dm scope.names X.env.cells []) nT cap:=by repeat first|exact .nil rfl|refine QH rfl rfl ?_)
  (S:CompSc X scope (dm scope.names X.env.cells []):=by exact IP) (M:X.calm=true:=by rfl)
  (hs:∀x,foldedSetIterable dr X.env x=pure x:=by intro _;rfl):
  JE X (.ListComp ng [⟨tg,dr,pM,0⟩] scope pos) (bN fi nT cap tgF fc fe):=HU M S U hi (λ_ _ _ _=>T) O (λ_ _ _ _=>hc) (λ_ _ _ _=>he) hs
theorem oC (N':LS)(a:X.N.Nodup)(hi:JI X tg dr fi)(hc:∀ {C s H fp},JC (fH X N' scope (dm scope.names X.env.cells []) C s H fp) pM fc)(he:∀ {C s H fp},JE (fH X N' scope (dm scope.names X.env.cells []) C s H fp) ng fe)
  (O:E4 X.K nT tgF g:=by first|exact mv (by decide)|exact EQ (by decide)) (b:∀ {C s H fp},PG (fH X N' scope (dm scope.names X.env.cells []) C s H fp) tg g:=by intros;first|exact Hf 0|exact vi rfl (gz (Hf 0) (gz (Hf 1) p6)))
  (c:kQ X N' scope (dm scope.names X.env.cells []) nT cap:=by repeat first|exact .nil rfl|refine QH rfl rfl ?_)
  (T:X.N[i]? = some y:=by rfl) (hy:X.env.kindOf y=some .local:=by rfl)
  (U:swapsWith (.ListComp ng [⟨tg,dr,pM,0⟩] scope pos) (some (.Name y py)) spos.line X.env=pure true:=by rfl)
  (S:CompSc X scope (dm scope.names X.env.cells []):=by exact IP) (M:X.calm=true:=by rfl)
  (hs:∀x,foldedSetIterable dr X.env x=pure x:=by intro _;rfl):
  JS X (.Assign [.Name y py] (.ListComp ng [⟨tg,dr,pM,0⟩] scope pos) spos) (aW i (bN fi nT cap tgF fc fe)):=HV M a T hy U S c hi (λ_ _ _ _=>b) O (λ_ _ _ _=>hc) (λ_ _ _ _=>he) hs
theorem yD (hi:JI X tg U fi)(M:PG X tg t)(O:HQ X.K tgF t)(hb:z7 X T g)(hp:PassesOwn (model X.prog X.w) X.A X.env X.xe:=by exact PassesOwn.never)(hc:X.calm=true:=by rfl)
  (hs:∀x,foldedSetIterable U X.env x=pure x:=by intro _;rfl):JS X (.For tg U T [] pos) (sV fi tgF g):=LQ hp hc hi M O hb hs
theorem F9 (hi:PI X tg U (QF X.K fi))(M:PG X tg t)(O:HQ X.K tgF t)(hb:z7 X T g)(hp:PassesOwn (model X.prog X.w) X.A X.env X.xe:=by exact PassesOwn.never)(hc:X.calm=true:=by rfl)
  (hs:∀x,foldedSetIterable U X.env x=pure x:=by intro _;rfl):JS X (.For tg U T [] pos) (ot fi tgF g):=Ic hp hc hi M O hb hs
end
end DL
namespace DL
open PySem PySem.Spec PySem.W PyProof.Rows L2
theorem qL:entryFor table "dict_itemiterator.__iter__" = some Builtin.«dict_keyiterator.__iter__»:=entryFor_alias (id':="dict_keyiterator.__iter__") (by kernel_rfl) rfl (by decide +kernel) (by kernel_rfl)
theorem wI (he:IsItemIter s.heap it d i n O ok T)(h:Q (.ref it) s):wpAny (model prog w) A (pyIter (.ref it)) Q E s:=by
 have M:s.TypeIs (.ref it) "dict_itemiterator":=⟨_,he,rfl⟩;refine wpAny_pyIter_slot M PySem.F.slot_dict_itemiterator_iter (wpAny_call_entry PySem.F.slot_dict_itemiterator_iter M qL ?_ (PySem.F.args_dict_itemiterator_iter_1 _));show wpAny _ _ (ret (.ref it)) _ _ s;exact wY ⟨_,rfl,"dict_itemiterator",_,M,PySem.F.slot_dict_itemiterator_next.lookup,h⟩
noncomputable def Sd (a:Addr)(aL:List (dO×V))(ob:Obj):It:=⟨λi H=>H a=some (.dK aL ob)/\i<aL.length,λi H y H'=>∃T k v,y=.ref T/\H T=none/\H'=upd H T (.tup [kV k,v])/\aL[i]? = some (k,v),λi H=>H a=some (.dK aL ob)/\aL.length<=i⟩
theorem As {P:Program}{w:World}{K:Frag}{es:QD}{t:Nat}{pt:Pos}(a it:Addr)(aL:List (dO×V))(ob:Obj){ds:Array DictEntry}{l:Nat}(hd:ob.data=.dict ds l):Turn P w K (.Tuple es t pt) (Sd a aL ob) [it] it (λi h=>∃ok M,IsItemIter h it a i aL.length l ok M) where
 mem:=by simp
 obj:=λi h st b hb=>by
  have e:b=it:=by simpa using hb
  subst e;obtain⟨ok,M,e⟩:=st;exact⟨_,e,λv z=>by cases z⟩
 keep:=λi h h' st k=>let ⟨ok,M,e⟩:=st;⟨ok,M,k it (by simp) _ e⟩
 item:=by
  intro X c hw d hc i ae s σ H E I hf st f;subst c hw d;obtain⟨ok,M,he⟩:=st;obtain⟨g,O⟩:=f;obtain⟨vs,r,m⟩:=qJ I.hok g hd;have hl:vs.length=aL.length:=(Paired.length r).symm;obtain⟨u,hu,ru⟩:=r.get (k:=aL[i].1) (x:=aL[i].2) (vU O);have fresh:H s.heap.objs.size=none:=I.hok.fresh (vT _);have T:it≠s.heap.objs.size:=vS (vX he);refine wpAny_pyNext_items_item (by rw[hl];exact he) m hu λj h' U n y hsz hk=>?_;rw[hl]at n;refine⟨_,rfl,wpAny_letOwnedTupleGo_items (s:={ s with heap:=h' }) n λh2 A s2=>?_⟩;have p:Heap.SameBut it h' h2:=s2;have B:∀b o,b∉[it]->s.heap.get? b=some o->h2.get? b=some o:=λb o hb q=>p.extBut _ _ (λz=>hb (by simp[z])) (hk b o (λz=>hb (by simp[z])) q);have new:c7 X.prog X.w (upd H s.heap.objs.size (.tup [kV aL[i].1,aL[i].2])) h2 s.heap.objs.size (.tup [kV aL[i].1,aL[i].2]):=⟨by show 2<=sizeLine;decide,[j,u],.cons (OX U) (.cons ru .nil),⟨_,p.extBut _ _ T.symm y,rfl,_,rfl⟩⟩;refine⟨.ref s.heap.objs.size,upd H s.heap.objs.size (.tup [kV aL[i].1,aL[i].2]),ER (s:=s) (t':=s.toks) I hf B (vT _) new,rfl,⟨_,aL[i].1,aL[i].2,rfl,fresh,rfl,vU O⟩,⟨_,_,A⟩,λb hb=>?_⟩;have C:b≠s.heap.objs.size:=by
   have e:b=it:=by simpa using hb
   rw[e];exact T
  rw[aD C];exact(hf b hb).1
 done:=by
  intro X c hw d hc i ae s σ H E I hf st f;subst c hw d;obtain⟨ok,M,he⟩:=st;obtain⟨g,D⟩:=f;obtain⟨vs,r,m⟩:=qJ I.hok g hd;have hl:vs.length=aL.length:=(Paired.length r).symm;exact wpAny_pyNext_items_end (I.ok.hd hc) (by rw[hl];exact he) m (getElem?_eq_none (by lia)) λh' hk=>⟨rfl,m4 (t':=s.toks) I hf λb o hb q=>hk b o (λz=>hb (by simp[z])) q⟩
 self:=λ_ _ _ _ _ st h=>let ⟨_,_,he⟩:=st;wI he h
section
variable {X:Cx}{es:QD}{kt:Nat}{pt:Pos}{e:Expr}
def Se (O:TE):TI:=λσ H R=>O σ H λx M=>∃a aL ob,x=.ref a/\M a=some (.dK aL ob)/\R (Sd a aL ob) M
theorem FC {o:Expr}{c:TE}{dI cL:Pos}(g:PE X o c)(M:attributeBase o "items" X.env (eval o X.env)=eval o X.env:=by rfl)(O:(dI.endLine == cL.line)=true:=by rfl):PI X (.Tuple es kt pt) (.Call (.Attribute o "items" dI) [] [] cL) (Se c):=by
 intro ae s σ H R I h;refine wpAny_Call_method0_late M O (cA (g ae s σ H _ I h) λv s1 ⟨x,d,I1,f,a,aL,ob,ex,U,q⟩=>?_);subst ex;obtain⟨h1,h2⟩:=zO I1 f (T:="dict") (.inr (.inr (.inl ⟨rfl,.inl ⟨aL,ob,U⟩⟩)));cases f
 obtain⟨es,i,hd⟩:=wH I1.hok U;obtain⟨vs,r,m⟩:=qJ I1.hok U hd;have hl:vs.length=aL.length:=(Paired.length r).symm;refine⟨"dict","dict.items",plainAttrs_dict,PySem.F.slot_dict_items,PySem.F.type_dict_items,h1,h2,Calls.callWith_builtin rfl (PySem.evalArgs_none ?_)⟩;refine call_meetsIn PySem.F.slot_dict_items h1 PySem.F.entry_dict_items (PySem.F.args_dict_items_1 _) (meets_dict_items (c6 X.prog X.w) a (pW I1.hok U).2.1) ⟨⟨vs,m.dictOf⟩,?_⟩;have I2:Inv X ae σ d { s1 with heap:=s1.heap.push { cls:=.type "dict_items",data:=.fields #[.ref a] } }:=I1.kept (t':=s1.toks) λb o e=>vZ _ e;refine wpAny_pyIter_items (v:=s1.heap.objs.size) ⟨_,vY _ rfl,rfl,rfl⟩ (m.keep λb o e=>vZ _ e) ?_;rw[hl];refine⟨(s1.heap.push { cls:=.type "dict_items",data:=.fields #[.ref a] }).objs.size,[(s1.heap.push { cls:=.type "dict_items",data:=.fields #[.ref a] }).objs.size],_,_,d,rfl,I2.kept (t':=s1.toks) λb o e=>vZ _ e,As a _ aL ob hd,⟨_,_,vY _ rfl⟩,λb hb=>?_,q⟩;have e:b=(s1.heap.push { cls:=.type "dict_items",data:=.fields #[.ref a] }).objs.size:=by simpa using hb
 subst e;exact I2.fpOk (vT _) (I2.hok.fresh (vT _))
noncomputable def lS (ks:LK)(ds:LD):LD:=(ks.zip ds).map λx=>.tup [kD x.1,x.2]
theorem FD {K:Frag}{B:Hp}{a:Addr}{ks:LK}{vs:LV}{ds:LD}{ob:Obj}(h:B a=some (.dK (ks.zip vs) ob))(hl:ks.length=vs.length)(hs:IsL K B vs ds):lL K (Sd a (ks.zip vs) ob) B (lS ks ds):=by
 intro i H s;have hz:(ks.zip vs).length=vs.length:=by rw[length_zip];lia
 have hn:=hs.length;refine⟨λd ed=>?_,λM=>⟨s _ _ h,by unfold lS at M;rw[vI,length_zip]at M;lia⟩⟩;unfold lS at ed;rw[vA]at ed;obtain⟨⟨k0,d0⟩,ek,rfl⟩:=oY ed;obtain⟨f,e2⟩:=getElem?_zip_eq_some.mp ek;obtain⟨v,U,iv⟩:=hs.get e2;have O:i<vs.length:=(vV U).1;refine⟨⟨s _ _ h,by rw[hz];exact O⟩,λy l hy=>?_⟩;obtain⟨T,k,g,rfl,j,rfl,e⟩:=hy;obtain⟨g1,b⟩:=getElem?_zip_eq_some.mp e;rw[f]at g1;cases g1;rw[U]at b;cases b;have c:=Ext.laid (o:=.tup [kV k0,g]) s j;exact⟨_,c,.tup (ji.of aA) (.cons (OZ _) (.cons (iv.mono c.bn) .nil))⟩
@[simp] def B6 (f:FE):FA:=λρ=>(f ρ).bind λx=>match x.1 with|.dk ks ds=>some (lS ks ds)|_=>none
theorem FF (h:JE X e f)(M:attributeBase e "items" X.env (eval e X.env)=eval e X.env:=by rfl)(O:(dI.endLine == cL.line)=true:=by rfl):JI X (.Tuple es kt pt) (.Call (.Attribute e "items" dI) [] [] cL) (B6 f):=by
 intro ae s σ H R I q;obtain⟨B,ρ,ds,U,r,b,q⟩:=q;obtain⟨⟨xd,g⟩,ex,es⟩:=oX b;cases xd<;>try (cases es;done)
 cases es
 refine FC h M O ae s σ H R I ⟨B,ρ,_,_,U,r,ex,λv c N1 T d _=>?_⟩;cases d with
 |@dk a ks vs ds ob hd hl hs=>exact⟨a,_,ob,rfl,T.nh _ _ hd,q _ c N1 T (FD hd hl hs)⟩
end
section
variable {K:Frag}{E:Ends}{σ:St}{H:Hp}
def qM (i:Nat)(O T:FE):FS:=λρ=>match ρ[i]? with
 |some (some (.dk ks vs,true))=>(T (ly ρ)).bind λv=>(O ρ).bind λk=>(lF k.1).bind λM=>if ks.length<sizeLine then some (.nx (ρ.set i (some (.dk (dL ks M) (dM ks vs M v.1),true))))else none
 |_=>none
theorem Du (q:ny K (qM i fk fv) E σ H):AN (pP i) (tD K fk) (tD K fv) E σ H:=by
 obtain⟨B0,H0,ρ,r,⟨N,s⟩,e,p⟩:=q;unfold qM at e;split at e
 ·rename_i ks ds ei;obtain⟨v,O,e⟩:=oX e;obtain⟨k,ek,e⟩:=oX e;obtain⟨T,hk,e⟩:=oX e;split at e
  ·rename_i hx;cases e
   refine⟨eE N (own σ ρ),ly ρ,v.1,v.2,bV.trans s.ext.nh,s.repH,O,λg h N1 U b _=>?_⟩;obtain⟨s1,c⟩:=s.growH U;obtain⟨a,o,h1,h2,h3,h4⟩:=s1.ow i _ ei;refine⟨.ref a,h1,_,ρ,k.1,k.2,s1.ext.nh,s1.rep,ek,λj H2 N2 M d _=>?_⟩;have s2:=s1.grow M;have hv:=qC d hk;subst hv;obtain⟨l,o',k1,k2,m,f⟩:=s2.ow i _ ei;rw[h1]at k1;cases k1
   cases f with
   |@dk ks vs ds hl h5 ob=>
    refine⟨a,rfl,.inl ⟨_,T,_,s2.ext.nh _ _ k2,rfl,?_,λn=>?_⟩⟩
    ·rw[length_zip];lia
    ·rw[pD hl];exact p σ _ ⟨_,s2.writeB ei h1 (.dk (m9 hl _ _) (h5.put ((b.mono c).mono (eY λa o e q=>⟨M.bn a o e,q⟩))))⟩
  ·cases e
 ·cases e
end
section
variable {X:Cx}{pos:Pos}{e k:Expr}
theorem FH (hu:X.A.units+1<cLine)(hv:JE X e U)(hk:JE X k fk)(T:X.N[i]? = some y:=by rfl)(M:KP X.env.scope y:=by first|exact Or.inl rfl|exact Or.inr (Or.inl rfl)|exact Or.inr (Or.inr rfl))(hd:(y == ("__debug__" : Str))=false:=by decide)
  (O:(y == ("__classdict__" : Str))=false:=by decide) (hs:swapsWith e (some (.Subscript (.Name y py) k pt)) pos.line X.env=pure false:=by rfl):JS X (.Assign [.Subscript (.Name y py) k pt] e pos) (qM i fk U) :=
 PS.to (p7 hu (cF T M hd O) hk hv hs) λ_ _ _ q=>Du q
end
section
variable {prog:Program}{w:World}{A:Around}{E:QV}{s:Shared}
theorem B7:∀(vs:LU)(ns:LI),vs.length=ns.length->(∀(i:Nat)(v:Value),vs[i]? = some v->∃(m:Int)(t:Tok),ns[i]? = some m/\v=Value.int m t)->IntsAre vs ns
 |[],[],_,_=>.nil
 |v::vs,n::ns,h,k=>by
  obtain⟨m,t,e,rfl⟩:=k 0 v rfl;cases (show some n=some m from e)
  exact .cons n t (B7 vs ns (by simpa using h) λi v hv=>k (i+1) v hv)
theorem yE (hh:A.handled=none)(lo:(a == sysModules)=false)(hm:s.heap.DictAt (c6 prog w) a aL ep)(hk:aL.map (·.1)=ns.map .inl)(g:ns.length<64)
  (h:∀(h1 h':Heap)(tk:Nat)(b:Addr)(out:AV)(n:Nat)(O:LI),(∀c u,s.heap.get? c=some u->h1.get? c=some u)->(∀c u,h1.get? c=some u->h'.get? c=some u)->h1.objs.size<=b->h'.get? b=some (seqObj "list" out n) ->
   IntsAre out.toList O->O.Perm ns->O.Pairwise (·<=·)->Q (.ref b) { s with heap:=h',toks:=tk }):
  wpAny (model prog w) A (call (.builtin "sorted") [.ref a]) Q E s:=by
 refine Calls.call_function_entry kind_sorted plain_sorted entry_sorted (args_sorted1 _) ?_;unfold Builtin.«sorted»;refine wX (m:=checkCount "sorted" 1 1 _) (wY ?_);have j:aL.length=ns.length:=by have:=congrArg List.length hk;simpa using this
 refine wX (kdu_collect (A:=A.in1) (kdl_dict lo) (by exact hh) hm (by rw[sizeLine_eq];lia) λh1 tk M U T=>?_);have d:M.toList.length=ns.length:=by rw[vG,T.1,j]
 have l:IntsAre M.toList ns:=B7 M.toList ns d λi v hv=>by
  obtain⟨k,x,o,e2⟩:=T.2 i v (by simpa using hv);have f:(aL.map (·.1))[i]? = some k:=by rw[vA,o];rfl
  rw[hk,vA]at f;obtain⟨m,p,rfl⟩:=oY f;obtain⟨t,rfl⟩:=Value.isInt_shape (k:=m) (v:=v) e2;exact⟨m,t,p,rfl⟩
 refine wX (wpAny_newList ?_ (by rw[d,sizeLine_eq];lia));have e:(h1.push (seqObj "list" M.toList.toArray 0)).get? h1.objs.size=some (seqObj "list" M.toList.toArray 0):=vY _ rfl;show wpAny _ _ _ _ _ { s with heap:=h1.push (seqObj "list" M.toList.toArray 0),toks:=tk };refine wX (wpAny_holding (wpAny_call_entry slot_list_sort ⟨_,e,rfl⟩ entry_list_sort (list_sort_tree e l (by rw[d];exact g) λout O r y z=>⟨_,rfl,?_⟩) (args_list_sort _)));obtain⟨n,he⟩:=sortedHeap_at (out:=out) e;refine wY ⟨_,rfl,h h1 _ _ _ out n O U (λb u q=>?_) (vT _) he r y z⟩;have hl:=vX q;rw[sortedHeap_old (vS hl) (by rw[size_push'];exact lt_succ_of_lt hl)];exact vZ _ q
end
noncomputable def uq:LK->Option LI
 |[]=>some []
 |.inl n::ks=>(uq ks).map (n :: ·)
 |.inr _::_=>none
theorem yF:∀ {ks:LK}{ns:LI},uq ks=some ns->ks=ns.map .inl
 |[],_,h=>by cases h;rfl
 |.inl n::ks,_,h=>by
  obtain⟨r,h1,rfl⟩:=oY h;rw[yF h1];rfl
 |.inr _::_,_,h=>by cases h
theorem IU {aL:List (dO×V)}{vs:List (dO×Value)}(r:KV aL vs):vs.map (·.1)=aL.map (·.1):=by
 unfold KV at r;induction r with
 |nil=>rfl
 |cons h t M=>rw[uY,uY,M,h.1]
@[simp] def jx:LD->OB
 |[.dk ks _]=>(uq ks).bind λns=>if ns.length<64 then some (.lst ((qx ns).map .int),true)else none
 |_=>none
section
variable {X:Cx}
theorem Dv (hc:X.calm=true):ci X (.builtin "sorted") (CM X.K jx):=by
 intro ae s σ H xs us Q I r h;obtain⟨B,dl,d,bb,c,i,M,q⟩:=h;cases i with
 |nil=>simp[jx]at M
 |cons f g=>
  cases g with
  |cons _ _=>cases f<;>simp[jx]at M
  |nil=>
   cases f with
   |@dk a ks vs ds ob hd hl hs=>
    obtain⟨u,rfl,j⟩:=hG r;cases j
    simp only[jx]at M;obtain⟨ns,en,M⟩:=oX M;split at M
    ·rename_i T;cases M
     have U:=c _ _ hd;obtain⟨es,A,k⟩:=wH I.hok U;obtain⟨l,p,m⟩:=qJ I.hok U k;have t:l.map (·.1)=ns.map .inl:=by rw[IU p,List.map_fst_zip (by lia),yF en]
     refine yE (I.ok.hd hc) (pW I.hok U).2.1 m t T λh1 h' tk b out n v k1 k2 hb he x O y=>?_;have e:=Fe O y;subst e;have I1:Inv X ae σ H { s with heap:=h1,toks:=tk }:=ua I k1 rfl rfl;have hf:H b=none:=I1.hok.fresh hb;have z:=Ext.laid (o:=.lst ((qx ns).map V.int)) c hf;exact⟨.ref b,_,I1.laid (t':=tk) k2 hb (show c7 X.prog X.w _ h' _ (.lst ((qx ns).map V.int))from ⟨by rw[vI];unfold qx;rw[(aX _ ns).length_eq,sizeLine_eq];lia,out.toList,n,jk x,he⟩),rfl,q _ _ _ z (.lst (fx.of aA) (qy _)) λ_=>⟨_,_,_,rfl,rfl,hf,aA,qy _⟩⟩
    ·cases M
   |_=>simp[jx]at M
theorem FI (hu:X.A.units+1<cLine)(hi:JE X i fi)(U:JE X o fo)(hm:behindInMarks .In o=false:=by first|exact kg _ (by decide) (by decide)|rfl):JE X (.Compare i [.In] [o] pos) (f2 Mm fi fo):=by
 refine PE.to (KW (L7 hu hi U) hm) λσ H Q q=>?_;obtain⟨B,ρ,d,bb,b,r,M,q⟩:=q;obtain⟨y,c,M⟩:=oX M;obtain⟨x,ex,M⟩:=oX M;refine⟨B,ρ,y.1,y.2,b,r,c,λg j N1 O e _=>⟨N1,ρ,x.1,x.2,O.nh,r.mono O.bn,ex,λv H2 N2 T f l=>?_⟩⟩;obtain⟨xd,m⟩:=x;cases f with
 |@dk a ks vs ds ob h hl hs=>
  simp only[Mm]at M;obtain⟨k,hk,M⟩:=oY M;cases M
  have hv:=qC e hk;subst hv;refine⟨a,fL (ks.zip vs) k,rfl,.inl ⟨_,k,_,.inl (T.nh _ _ h),rfl,rfl⟩,?_⟩;rw[Dk hl hs];exact(q.into (O.trans T)).one T.nh (.bl _)
 |_=>simp[Mm]at M
end
end DL
namespace DL
open PySem PySem.Spec PyProof.Rows L2
@[simp] abbrev fV (i:Nat)(g:FA):FA:=af (ai i) g
@[simp] abbrev fI (n:Int):FE:=fC (.int n)
@[simp] abbrev fS (s:PySem.Str):FE:=fC (.str s)
section
variable {X:Cx}{es:QD}{g:FA}{pos:Pos}
theorem aK {x:Str}{p:Pos}(i:Nat)(hr:JA X es g)(M:PE X (.Name x p) (pP i):=by exact pv)
  (hs:starEach (.Name x p::es) X.env=(false,eval (.Name x p) X.env)::starEach es X.env:=by rfl):JA X (.Name x p::es) (fV i g):=ah (ag i M) hr hs
theorem cm {i:Int}{j:Nat}(hr:JA X es g):JA X (.Constant (.int i) j pos::es) (af (fC (.int i)) g):=ah au hr
theorem aB (F:Fn X.prog X.w X.K X.mg X.base k x f)(hr:eQ j X.A)(ha:JA X (e::es) g:=by repeat first|exact am|refine aK _ ?_|refine ah aC ?_)(hj:k<=j:=by decide)(T:Gl X x:=by rfl)(M:(x == ("__debug__" : Str))=false:=by decide)(he:starEach (e::es) X.env=(false,eval e X.env)::starEach es X.env:=by rfl)(O:(backTo pos (starEach es X.env)).any (·.1)=false:=by rfl):JE X (.Call (.Name x p) (e::es) [] pos) (fA f g):=AT F (hr.mono hj) ha T M he O
theorem bg (he:JE X e f):z7 X [.Return (some e) pos] (ba f):=bJ (EC he)
theorem cE {c:Expr}{fc:FT}(hc:JT X c fc)(he:JE X e f):JS X (.If c [.Return (some e) p] [] pos) (eZ fc (ba f) bx):=fU hc (bJ (EC he)) fO
theorem bL (i:Nat)(M:PE X (.Name x p) (pP i):=by exact pv):JE X (.Subscript (.Name x p) (.Constant (.int n) j q) pos) (dE i n):=aR (ag i M) au
end
noncomputable def Nm (K:Frag)(M O:Addr):It :=
  ⟨λi H=>∃xs ys x y,fx K H M xs/\fx K H O ys/\xs[i]? = some x/\ys[i]? = some y,
   λi H v H'=>∃T x y,v=.ref T/\H T=none/\H'=upd H T (.tup [x,y])/\(∀xs,fx K H M xs->xs[i]? = some x)/\(∀ys,fx K H O ys->ys[i]? = some y),
   λi H=>∃xs ys,fx K H M xs/\fx K H O ys/\(xs.length<=i\/ys.length<=i)⟩
theorem Dw {P:Program}{w:World}{K:Frag}{es:QD}{F:Nat}{pt:Pos}{m n z TI TO f g:Addr}(D:ZipApart z TI TO f g m n):
  Turn P w K (.Tuple es F pt) (Nm K m n) [z,TI,TO,f,g] z (λi h=>IsZip h z TI TO .none/\IsPair h TI (.ref f) (.ref g)/\(∃a b,IsPair h TO a b)/\h.IsListIter f m i/\h.IsListIter g n i) where
 mem:=by simp
 obj:=λi h ⟨hz,O,⟨a,c,T⟩,⟨G,U,_,d1⟩,⟨J,d,_,d2⟩⟩ b hb=>by
  simp at hb;rcases hb with rfl|rfl|rfl|rfl|rfl
  ·exact⟨_,hz,λv z=>by cases z⟩
  ·exact⟨_,O,λv z=>by cases z⟩
  ·exact⟨_,T,λv z=>by cases z⟩
  ·exact⟨_,U,λv z=>by rw[d1]at z;cases z⟩
  ·exact⟨_,d,λv z=>by rw[d2]at z;cases z⟩
 keep:=λi h h' ⟨hz,O,⟨a,c,T⟩,U,d⟩ k=>⟨k z (by simp) _ hz,k TI (by simp) _ O,⟨a,c,k TO (by simp) _ T⟩,U.at λo e=>k f (by simp) o e,d.at λo e=>k g (by simp) o e⟩
 item:=by
  intro X p hw r hc i ae s σ H E I hf st t;subst p hw r;obtain⟨hz,O,⟨a,c,T⟩,U,d⟩:=st;obtain⟨xs,ys,x,y,j,l,hx,hy⟩:=t;obtain⟨its,A,B,_⟩:=I.list j;obtain⟨L,C,p2,_⟩:=I.list l;obtain⟨u,hu,ru⟩:=A.get hx;obtain⟨v,hv,N⟩:=C.get hy;have lt:∀ {c o},s.heap.get? c=some o->c≠s.heap.objs.size:=λe=>vS (vX e);refine wpAny_pyNext_zip_item D hz O T U d B.isList p2.isList (by simpa using hu) (by simpa using hv) λh' b1 b2 b3 b4 Q V bk=>?_;refine⟨_,rfl,wpAny_letOwnedTupleGo_zip (s:={ s with heap:=h' }) b1 λh2 c1 s2=>?_⟩;have M:Heap.SameBut z h' h2:=s2;have R:∀b o,b∉[z,TI,TO,f,g]->s.heap.get? b=some o->h2.get? b=some o:=λb o hb e=>
   M.extBut _ _ (λq=>hb (by simp[q])) (bk b o (λq=>hb (by simp[q])) (λq=>hb (by simp[q])) (λq=>hb (by simp[q])) (λq=>hb (by simp[q])) e)
  refine⟨.ref s.heap.objs.size,upd H s.heap.objs.size (.tup [x,y]),ER (s:=s) (t':=s.toks) I hf R (vT _) ⟨by show 2<=sizeLine;decide,[u,v],.cons ru (.cons N .nil),⟨_,M.extBut _ _ (lt hz).symm Q,rfl,_,rfl⟩⟩,rfl,
   ⟨_,x,y,rfl,I.fresh,rfl,λzs hq=>by rw[I.list_inj hq j];exact hx,λzs hq=>by rw[I.list_inj hq l];exact hy⟩,
   ⟨c1,M.extBut _ _ D.TIz (bk _ _ D.TIz D.TITO D.TIi1 D.TIi2 O),⟨_,_,M.extBut _ _ D.TOz b2⟩,b3.at λo e=>M.extBut _ _ D.i1z e,b4.at λo e=>M.extBut _ _ D.i2z e⟩,λb hb=>?_⟩
  rw[aD]
  ·exact(hf b hb).1
  ·obtain⟨G,S,_⟩:=U;obtain⟨J,e2,_⟩:=d;simp at hb;rcases hb with rfl|rfl|rfl|rfl|rfl
   ·exact lt hz
   ·exact lt O
   ·exact lt T
   ·exact lt S
   ·exact lt e2
 done:=by
  intro X p hw r hc i ae s σ H E I hf st t;subst p hw r;obtain⟨hz,O,⟨a,c,T⟩,U,d⟩:=st;obtain⟨xs,ys,j,l,hl⟩:=t;obtain⟨its,A,B,_⟩:=I.list j;obtain⟨L,C,p2,_⟩:=I.list l;have n1:=A.length;have n2:=C.length;exact wpAny_pyNext_zip_end (I.ok.hd hc) D hz O T U d B.isList p2.isList (hl.imp (λq=>by simp;lia) λq=>by simp;lia) λh' hk=>⟨rfl,m4 (t':=s.toks) I hf λb o hb e=>hk b o (λq=>hb (by simp[q])) (λq=>hb (by simp[q])) (λq=>hb (by simp[q])) (λq=>hb (by simp[q])) e⟩
 self:=λ_ _ _ _ _ st h=>wpAny_pyIter_zip st.1 h
@[simp] def FJ (fa M:FE):FA:=λρ=>(fa ρ).bind λx=>(M ρ).bind λy=>match x.1,y.1 with
 |.lst xs,.lst ys=>some (CZ xs ys)
 |_,_=>none
section
variable {X:Cx}{a b:Expr}{pos p:Pos}
theorem IV (h1:fx X.K N l1 vs)(c:IsL X.K N vs ds)(h2:fx X.K N l2 ws)(e:IsL X.K N ws es):lL X.K (Nm X.K l1 l2) N (CZ ds es):=by
 intro i H' M;have n1:=c.length;have n2:=e.length;refine⟨λd ed=>?_,λhl=>⟨vs,ws,M.seq h1,M.seq h2,?_⟩⟩
 ·unfold CZ at ed;rw[List.getElem?_zipWith]at ed;cases O:ds[i]? with
  |none=>rw[O]at ed;simp at ed
  |some x=>
   cases e2:es[i]? with
   |none=>rw[O,e2]at ed;simp at ed
   |some y=>
    rw[O,e2]at ed;simp at ed;subst ed;obtain⟨v,f,iv⟩:=c.get O;obtain⟨w,g,k⟩:=e.get e2;refine⟨⟨vs,ws,v,w,M.seq h1,M.seq h2,f,g⟩,λr H2 hy=>?_⟩;obtain⟨T,m,n,rfl,l,rfl,f1,f2⟩:=hy;have h:=f1 vs (M.seq h1);have j:=f2 ws (M.seq h2);rw[f]at h;cases h;rw[g]at j;cases j;have U:=Ext.laid (o:=.tup [v,w]) M l;exact⟨_,U,.tup (ji.of aA) (.cons (iv.mono U.bn) (.cons (k.mono U.bn) .nil))⟩
 ·unfold CZ at hl;rw[List.length_zipWith]at hl;lia
theorem IW {es:QD}{t:Nat}{pt:Pos}{fa f:FE}(hm:X.mg "zip" = none)(ha:JE X a fa)(hb:JE X b f)(u:Gl X "zip":=by rfl)(hs:starEach [a,b] X.env=[(false,eval a X.env),(false,eval b X.env)]:=by rfl)(M:starEach [b] X.env=[(false,eval b X.env)]:=by rfl):
  JI X (.Tuple es t pt) (.Call (.Name "zip" p) [a,b] [] pos) (FJ fa f):=by
 intro ae s σ H R I q;obtain⟨B,ρ,ds,v,r,g,q⟩:=q;obtain⟨⟨xd,Y⟩,ex,k⟩:=oX g;obtain⟨⟨w,Z⟩,x,e2⟩:=oX k;clear k g;cases xd<;>try (cases e2;done)
 cases w<;>try (cases e2;done)
 rename_i xs ys;cases e2
 refine Call_ (lK I u hm ON (PyProof.Rows.callWith_type1 (cA (ah ha (ah hb am M) (by rw[hs,M]) pos ae s σ H (λvs T=>∃N1,Ext B N1 H T/\IsL X.K N1 vs [.lst xs,.lst ys]) I ⟨B,ρ,[.lst xs,.lst ys],v,r,by simp[af,aj,ex,x],λvs T N1 U y=>⟨N1,U,y⟩⟩) λus s1 ⟨vs,T,I1,z,N1,U,A⟩=>?_) (by rw[hs,M]) (by rw[M];rfl)));cases A with
 |cons C d=>
  cases d with
  |cons d D=>
   cases D;cases C;cases d
   rename_i l1 E h1 F l2 G h2 J;obtain⟨u1,u2,rfl,L,N⟩:=z.two;cases L
   cases N
   obtain⟨its,_,c,_⟩:=I1.list (U.nh.seq h1);obtain⟨Eb,_,p2,_⟩:=I1.list (U.nh.seq h2);have O:∀ {l:Addr}{items:AV}(n:Nat),s1.heap.IsList l items->l≠s1.heap.objs.size+n:=λn ⟨o,e,_⟩=>vS (vQ (vX e) (le_add_right _ n));have ne:∀ {i j:Nat},i≠j->s1.heap.objs.size+i≠s1.heap.objs.size+j:=λh e=>h (Nat.add_left_cancel e);refine call_zip_2 c.isList p2.isList λh' c1 P Q S V _ W=>?_;refine wpAny_pyIter_zip c1 ⟨s1.heap.objs.size+4,[s1.heap.objs.size+4,s1.heap.objs.size+2,s1.heap.objs.size+3,s1.heap.objs.size,s1.heap.objs.size+1],_,_,T,rfl,I1.kept (t':=s1.toks) W,
    Dw ⟨ne (by decide),ne (by decide),ne (i:=0) (by decide),ne (by decide),ne (by decide),ne (j:=0) (by decide),ne (by decide),ne (j:=0) (by decide),ne (by decide),ne (i:=0) (by decide),O 4 c.isList,O 3 c.isList,O 0 c.isList,O 1 c.isList,O 4 p2.isList,O 3 p2.isList,O 0 p2.isList,O 1 p2.isList⟩,⟨c1,P,⟨_,_,Q⟩,S,V⟩,λb hb=>?_,q _ T N1 U (IV h1 F h2 J)⟩
   have m:s1.heap.objs.size<=b:=by
    simp at hb;rcases hb with rfl|rfl|rfl|rfl|rfl
    ·exact le_add_right _ 4
    ·exact le_add_right _ 2
    ·exact le_add_right _ 3
    ·exact vT _
    ·exact le_add_right _ 1
   exact I1.fpOk m (I1.hok.fresh m)
end
@[simp] def Ut (i:Nat)(fa:FA):FS:=λρ=>(fa (ly ρ)).bind λds=>if ds.length<=sizeLine then some (.nx (ρ.set i (some (.lst ds,true))))else none
@[simp] def Uu (i:Nat)(f:FE):FS:=λρ=>match ρ[i]? with
 |some (some (.lst ds,true))=>(f (ly ρ)).bind λx=>if ds.length<sizeLine then some (.nx (ρ.set i (some (.lst (ds++[x.1]),true))))else none
 |_=>none
end DL
namespace DL
open PySem L2
theorem jy (I:Nat->Env->Prop)(ds:LD)(O:Env)(h0:I 0 O)
  (step:∀i d ρ,ds[i]? = some d->I i ρ->∃M ρ',tg d ρ=some M/\(g M=some (.nx ρ')\/g M=some (.ct ρ'))/\I (i+1) ρ'):
  ∃ρ',jo tg g ds O=some (.nx ρ')/\I ds.length ρ':=by
 have T:∀(es:LD)(i:Nat)(ρ:Env),ds.drop i=es->i+es.length=ds.length->I i ρ->∃ρ',jo tg g es ρ=some (.nx ρ')/\I ds.length ρ':=by
  intro es;induction es with
  |nil=>intro i ρ e hl h;refine⟨ρ,by rw[E2],?_⟩;rw[<-hl];exact h
  |cons d es a=>
   intro i ρ e hl h;have hd:ds[i]? = some d:=by
    have:(ds.drop i)[0]? = some d:=by rw[e];rfl
    rwa [getElem?_drop,Nat.add_zero]at this
   obtain⟨M,ρ',h1,h2,h3⟩:=step i d ρ hd h;have he:ds.drop (i+1)=es:=by rw[<-List.drop_drop,e];rfl
   obtain⟨U,k1,k2⟩:=a (i+1) ρ' he (by simp at hl;lia) h3;refine⟨U,?_,k2⟩;rw[CN,h1];rcases h2 with h2|h2<;>simp only[vJ,h2]<;>exact k1
 exact T ds 0 O (by simp) (by simp) h0
theorem qN (n:Nat)(I:Nat->Env->Prop)(M:Env)(h0:I 0 M)
  (step:∀(i:Nat) ρ,i<n->I i ρ->∃O ρ',tg (.int (i:Int)) ρ=some O/\(g O=some (.nx ρ')\/g O=some (.ct ρ'))/\I (i+1) ρ'):
  ∃ρ',jo tg g (hZ 0 n) M=some (.nx ρ')/\I n ρ':=by
 have hl:(hZ 0 n).length=n:=by simp[hZ]
 obtain⟨ρ',h1,h2⟩:=jy (tg:=tg) (g:=g) I (hZ 0 n) M h0 λi d ρ hd h=>by
  unfold hZ at hd;rw[vA]at hd;obtain⟨k,hk,hd⟩:=oY hd;obtain⟨T,hk⟩:=vV hk;rw[length_range]at T;rw[List.getElem_range]at hk;subst hk;rw[Int.zero_add]at hd;subst hd;exact step i ρ T h
 rw[hl]at h2;exact⟨ρ',h1,h2⟩
theorem k9 {α:Type}{xs:List α}{j:Nat}(h:j<xs.length):oq xs (j:Int)=some xs[j]:=HB (by simp[h])
theorem wJ {α:Type}{xs:List α}{i:Int}(h0:0<=i)(h:i.toNat<xs.length):oq xs i=some xs[i.toNat]:=by
 have:=k9 h;rwa [Int.toNat_of_nonneg h0]at this
@[simp] theorem Kv (xs:LI):bE (xs.map D.int)=true:=by
 induction xs with
 |nil=>simp
 |cons x xs M=>simp[M]
@[simp] theorem Hg (n:Nat)(xs:LI):(xs.map D.int).all (aQ n)=true:=by
 induction xs with
 |nil=>simp
 |cons x xs M=>simpa using M
@[simp] theorem IX (xs:LI):(xs.map D.int).all fW=true:=by
 induction xs with
 |nil=>simp
 |cons x xs M=>simpa using M
theorem Dx (n:Nat):hZ 0 n=((List.range n).map λ(k:Nat)=>(k:Int)).map D.int:=by
 unfold hZ;rw[uP];apply List.map_congr_left;intro k _;simp
mutual
def mB:D->D->Bool
 |.non,.non=>true
 |.bl a,.bl b=>a == b
 |.int a,.int b=>decide (a=b)
 |.str a,.str b=>decide (a=b)
 |.ty a,.ty b=>decide (a=b)
 |.tup xs,.tup ys=>qO xs ys
 |.lst xs,.lst ys=>qO xs ys
 |_,_=>false
def qO:LD->LD->Bool
 |[],[]=>true
 |x::xs,y::ys=>mB x y && qO xs ys
 |_,_=>false
end
mutual
theorem B8:∀ {x y:D},mB x y=true->x=y
 |.non,.non,_=>rfl
 |.bl a,.bl b,h=>by simp[mB]at h;rw[h]
 |.int a,.int b,h=>by simp[mB]at h;rw[h]
 |.str a,.str b,h=>by simp[mB]at h;rw[h]
 |.ty a,.ty b,h=>by simp[mB]at h;rw[h]
 |.tup xs,.tup ys,h=>by rw[mB]at h;rw[qP h]
 |.lst xs,.lst ys,h=>by rw[mB]at h;rw[qP h]
theorem qP:∀ {xs ys:LD},qO xs ys=true->xs=ys
 |[],[],_=>rfl
 |x::xs,y::ys,h=>by
  rw[qO,vC]at h;rw[B8 h.1,qP h.2]
end
def Sf (r:OB)(d:D)(b:Bool):Bool:=match r with
 |some (e,c)=>mB e d && c == b
 |none=>false
theorem Mu (h:Sf r d b=true):r=some (d,b):=by
 unfold Sf at h;split at h
 ·rw[vC]at h;rw[B8 h.1,eq_of_beq h.2]
 ·cases h
section
variable {f:FE}{c:FT}{g g' h:FS}{ρ ρ':Env}{i:Nat}{d:D}{b:Bool}{r:Option Res}{ds:LD}
theorem av (hl:ds.length=n)(e:g (ds.map (λd=>some (d,false))++List.replicate k none)=some (.rt d b)):aS g n k ds=some (d,b):=by
 unfold aS;rw[if_pos hl,e]
theorem ur (n:bB d=true):setE ρ i d b=ρ.set i (some (d,false)):=by unfold setE;rw[if_pos n]
theorem qQ (n:bE ds=true):setE ρ i (.lst ds) true=ρ.set i (some (.lst ds,true)):=by
 unfold setE;rw[if_neg (by simp),if_pos ⟨rfl,by simpa using n⟩]
theorem IY (n:bB d=false)(m:b=false\/xN d=false):setE ρ i d b=(unown ρ).set i (some (d,false)):=by
 unfold setE;have hz:¬(b=true/\xN d=true):=λz=>by
  rcases m with m|m
  ·rw[m]at z;exact absurd z.1 (by decide)
  ·rw[m]at z;exact absurd z.2 (by decide)
 rw[if_neg (by simp[n]),if_neg hz]
theorem FK (e:f ρ=some (d,b))(k:h (setE ρ i d b)=r):aF (aW i f) h ρ=r:=by simp[e];exact k
theorem Mv (e:f ρ=some (d,b))(n:bB d=true)(k:h (ρ.set i (some (d,false)))=r):aF (aW i f) h ρ=r:=FK e (by rw[ur n];exact k)
theorem de (e:f ρ=some (.lst ds,true))(n:bE ds=true)(k:h (ρ.set i (some (.lst ds,true)))=r):aF (aW i f) h ρ=r:=FK e (by rw[qQ n];exact k)
theorem Sg (e:f ρ=some (d,b))(n:bB d=false)(m:b=false\/xN d=false)(k:h ((unown ρ).set i (some (d,false)))=r):aF (aW i f) h ρ=r:=FK e (by rw[IY n m];exact k)
theorem eM (e:g ρ=some (.nx ρ'))(k:h ρ'=r):aF g h ρ=r:=by unfold aF;rw[e];exact k
theorem Sh (e:g ρ=some (.rt d b)):aF g h ρ=some (.rt d b):=by unfold aF;rw[e]
theorem Si (e:g ρ=some (.ct ρ')):aF g h ρ=some (.ct ρ'):=by unfold aF;rw[e]
theorem lU (e:c ρ=some true)(k:g ρ=r):eZ c g g' ρ=r:=by unfold eZ;rw[e];exact k
theorem nM (e:c ρ=some false)(k:g' ρ=r):eZ c g g' ρ=r:=by unfold eZ;rw[e];exact k
theorem Pc (e:c ρ=some x)(M:x=true->g ρ=r)(O:x=false->g' ρ=r):eZ c g g' ρ=r:=by
 cases x with
 |true=>exact lU e (M rfl)
 |false=>exact nM e (O rfl)
theorem bA (e:c ρ=some true)(k:g ρ=some (.rt d b)):aF (eZ c g g') h ρ=some (.rt d b):=Sh (lU e k)
theorem aE (e:c ρ=some false)(k:h ρ=r):aF (eZ c g bx) h ρ=r:=eM (nM e rfl) k
theorem ax (e:f ρ=some (d,b)):ba f ρ=some (.rt d b):=by simp[e]
theorem pF (e:ρ[i]? = some (some (d,b)))(hb:Kk d=false:=by rfl):jn i ρ=some (.rt d b):=by simp only[jn,e,hb];simp
theorem qR (e:f ρ=some (d,b))(n:bB d=true):aW i f ρ=some (.nx (ρ.set i (some (d,false)))):=by
 show(f ρ).map _=_;rw[e,map_some,ur n]
theorem wK (e:f ρ=some (.lst ds,true))(n:bE ds=true):aW i f ρ=some (.nx (ρ.set i (some (.lst ds,true)))):=by
 show(f ρ).map _=_;rw[e,map_some,qQ n]
theorem jL (e:ρ[i]? = some (some (.lst ds,true)))(M:f ρ=some (d,b))(n:bB d=true)(l:ds.length<sizeLine):km i f ρ=some (.nx (ρ.set i (some (.lst (ds++[d]),true)))):=by
 simp[e,M,n,l]
theorem Kw (e:ρ[i]? = some (some (.lst ds,true)))(M:f ρ=some (d,b))(n:bB d=true)(l:ds.length<sizeLine)(k:h (ρ.set i (some (.lst (ds++[d]),true)))=r):aF (km i f) h ρ=r:=eM (jL e M n l) k
theorem qS (e:fi ρ=some ds)(k:jo tg g ds ρ=some (.nx ρ')):ot fi tg g ρ=some (.nx ρ'):=by unfold ot;rw[e];exact k
theorem mC (e:fi (ly ρ)=some ds)(k:jo tg g ds ρ=some (.nx ρ')):sV fi tg g ρ=some (.nx ρ'):=by unfold sV;rw[e];exact k
theorem jz {f:FE}{j:Nat}(e:f ρ=some (.int j,b))(hj:j<=1000):gK f ρ=some (hZ 0 j):=by
 unfold gK;rw[e];simp only[];rw[if_pos (by lia)];simp
theorem Mw (e:f ρ=some (.bl x,b)):bw f ρ=some x:=by unfold bw;rw[e]
theorem B9 (e:fa ρ=some ds)(k:F ds=x):fA F fa ρ=x:=by unfold fA;rw[e,vJ];exact k
theorem yG {f1 g1:D->D->OB}{fa M fc:FE}{x y z:D}{b1 b2 b3 b4 p q:Bool}(O:fa ρ=some (x,b1))(T:M ρ=some (y,b2))(U:fc ρ=some (z,b3))(a:f1 x y=some (.bl p,b4))(e2:p=true->g1 y z=some (.bl q,false)):nz f1 g1 fa M fc ρ=some (.bl (p && q),false):=by
 unfold nz;rw[O,T,U];simp only[vJ,a];cases p
 ·rfl
 ·exact e2 rfl
theorem dQ {f1 f2:FE}{p q b1:Bool}(M:f1 ρ=some (.bl p,b1))(e2:p=true->f2 ρ=some (.bl q,false)):lz f1 f2 ρ=some (.bl (p && q),false):=by
 unfold lz;rw[M];cases p
 ·rfl
 ·exact e2 rfl
theorem qT {f1 f2:FE}{p q b1:Bool}(M:f1 ρ=some (.bl p,b1))(e2:p=false->f2 ρ=some (.bl q,false)):LL f1 f2 ρ=some (.bl (p || q),false):=by
 unfold LL;rw[M];cases p
 ·exact e2 rfl
 ·rfl
theorem aI (M:f ρ=some (d,b))(e2:fr ρ=some xs):af f fr ρ=some (d::xs):=by
 unfold af;rw[M,vJ,e2,vJ]
theorem fB (M:fa ρ=some (x,b1))(e2:T ρ=some (y,b2))(O:op x y=z):f2 op fa T ρ=z:=by
 unfold f2;rw[M,vJ,e2,vJ];exact O
theorem fw (M:c1 ρ=some p)(e2:p=true->O ρ=some q):fF c1 O ρ=some (p && q):=by
 unfold fF;rw[M];cases p
 ·rfl
 ·exact e2 rfl
theorem cC (M:c1 ρ=some p)(e2:p=false->O ρ=some q):jm c1 O ρ=some (p || q):=by
 unfold jm;rw[M];cases p
 ·exact e2 rfl
 ·rfl
theorem bX (M:c1 ρ=some p):eX c1 ρ=some (!p):=by
 unfold eX;rw[M];rfl
end
theorem QI (a c:Nat):decide ([a]<[c])=decide (a<c):=by
 congr 1;rw[cons_lt_cons_iff];simp
@[simp] theorem QJ (a c:Nat):z9 (.str ⟨#[a]⟩) (.str ⟨#[c]⟩)=some (.bl (decide (a<=c)),false):=by
 unfold z9;show some (D.bl (!decide ([c]<[a])),false)=_;rw[QI];congr 3;by_cases h:c<a
 ·rw[xq h,DP (by lia)];rfl
 ·rw[DP h,xq (by lia)];rfl
theorem bY (h:n<=100000):n<sizeLine:=lt_of_le_of_lt h (by decide)
theorem dR (h:n<=100000):n<=sizeLine:=le_of_lt (bY h)
theorem fX {α:Type}(l:List α)(g:α->D)(p:α->Bool)(h:α->D)(e:fi ρ=some (l.map g))(hl:l.length<=100000)
  (k:∀x∈l,∃M,tg (g x) (dn nT cap ρ)=some M/\c M=some (p x)/\(p x=true->∃b,fe M=some (h x,b))):bN fi nT cap tg c fe ρ=some (.lst ((l.filter p).map h),true):=by
 have U:∀O:List α,(∀x∈O,x∈l)->fg tg c fe (dn nT cap ρ) (O.map g)=some ((O.filter p).map h):=by
  intro O;induction O with
  |nil=>intro _;simp
  |cons x O T=>
   intro hm;obtain⟨M,h1,h2,h3⟩:=k x (hm x mX);have T:=T λy hy=>hm y (mZ _ hy);rw[uY,lM,h1,vJ,h2,vJ];cases hp:p x with
   |false=>simp[hp,T]
   |true=>
    obtain⟨b,h4⟩:=h3 hp;simp[hp,T,h4]
 unfold bN;rw[e,vJ,if_pos (dR (by simpa using hl)),U l λ_ h=>h,map_some]
theorem kB {α:Type}(l:List α)(g:α->D)(h:α->D)(e:fi ρ=some (l.map g))(hl:l.length<=100000)
  (k:∀x∈l,∃M,tg (g x) (dn nT cap ρ)=some M/\∃b,fe M=some (h x,b)):bN fi nT cap tg fM fe ρ=some (.lst (l.map h),true):=by
 have:=fX (c:=fM) (fe:=fe) l g (λ_=>true) h e hl λx hx=>by
  obtain⟨M,h1,h2⟩:=k x hx;exact⟨M,h1,rfl,λ_=>h2⟩
 rw[List.filter_eq_self.mpr λ_ _=>rfl]at this;exact this
@[simp] theorem qU {α:Type}(f:α->Bool)(l:List α):qi (l.map λx=>.bl (f x))=some (l.map f):=by
 induction l with
 |nil=>rfl
 |cons x l M=>simp[M]
theorem zL (h0:0<=i)(h:i.toNat<z.cps.size)(hz:z.length<=100000):bD (.str z) (.int i)=some (.str ⟨#[z.cps.toList.getD i.toNat 0]⟩,false):=by
 have hh:i.toNat<z.cps.toList.length:=by simpa using h
 simp only[bD];rw[if_pos (dR hz),wJ h0 hh];simp[List.getD,h]
theorem Au (h0:0<=i)(h:i.toNat<ds.length):bD (.lst ds) (.int i)=some (ds.getD i.toNat .non,false):=by
 simp only[bD];rw[wJ h0 h];simp[List.getD,h]
theorem vp (h0:0<=i)(h:i.toNat<ds.length):bD (.tup ds) (.int i)=some (ds.getD i.toNat .non,false):=by
 simp only[bD];rw[wJ h0 h];simp[List.getD,h]
theorem BA {xs:LI}{i:Int}(h0:0<=i)(h:i.toNat<xs.length):bD (.lst (xs.map .int)) (.int i)=some (.int (xs.getD i.toNat 0),false):=by
 rw[Au h0 (by simpa using h)];simp[List.getD,h]
theorem mod_lt {x m:Int}(hm:0<m):0<=x % m/\x % m<m:=⟨Int.emod_nonneg _ (by lia),Int.emod_lt_of_pos _ hm⟩
theorem IZ:gd [.lst ds]=some (.int ds.length,false):=rfl
theorem BB:eV (.int i) (.int j)=some (.bl (decide (i=j)),false):=by simp
theorem qV (h:0<=v):HT.eG n d (some v)=min v.toNat n:=by
 show(if v<0 then (v+(n:Int)).toNat else min v.toNat n)=_;rw[if_neg (by lia)]
theorem bC (x y:D)(M:fa ρ=some (x,false))(e2:T ρ=some (y,false))(O:op x y=z):f2 op fa T ρ=z:=fB M e2 O
theorem cY (e:f ρ=some (.bl x,false)):bw f ρ=some x:=Mw e
theorem cw (M:f ρ=some (d,false))(e2:fr ρ=some xs):af f fr ρ=some (d::xs):=aI M e2
theorem aN (ds:LD)(e:fa ρ=some ds)(k:F ds=x):fA F fa ρ=x:=B9 e k
theorem gL (d:D)(e:f ρ=some (d,false))(n:bB d=true)(k:h (ρ.set i (some (d,false)))=r):aF (aW i f) h ρ=r:=Mv e n k
@[simp] noncomputable abbrev Zr (ab:LD)(aa:Int)(t:Env):Env:=some (.tup ab,false)::some (.int aa,false)::t
@[simp] noncomputable abbrev eR (ns:LI)(zs:LS)(O:Int)(M:LS)(R:LD)(a b:OB)(t:Env):Env:=some (.lst (ns.map .int),false)::some (.lst (zs.map .str),false)::some (.int O,false)::a::some (.lst (M.map .str),true)::some (.lst R,true)::b::t
end DL
namespace DL
open PySem PySem.Spec PyProof.Rows L2
open PySem.W (Frag)
def Sj (K:Frag)(O:TI)(nT:Nat)(cap:LN)(tgF:FG)(fc:FT)(fe:FE):TE:=λσ H Q=>O σ H λJ M=>∃(N1:Hp)(ρ:Env)(items ds:LD),aT N1 M/\eU K N1 σ ρ/\lL K J N1 items/\items.length<=sizeLine/\fg tgF fc fe (dn nT cap ρ) items=some ds /\
 ∀(Dd:Addr)(vs:LV)(H' N:Hp),M Dd=none->Ext N1 N M H'->N Dd=some (.lst vs)->IsL K N vs ds->Q (.ref Dd) H'
section
variable {X:Cx}{tg dr ng:Expr}{pM:QD}{scope:Scope}{pos spos py:Pos}{cl:List (Str×Addr)}{N':LS}{nT i:Nat}{cap:LN}{tgF:FG}{g:TG}{fc:FT}{fe:FE}{wi:TI}{y:Str}
theorem FL (M:X.calm=true)(S:CompSc X scope cl)(c:kQ X N' scope cl nT cap)(hi:PI X tg dr wi)
  (d:∀C s H fp,PG (fH X N' scope cl C s H fp) tg g) (O:E4 X.K nT tgF g) (hc:∀C s H fp,JC (fH X N' scope cl C s H fp) pM fc) (he:∀C s H fp,JE (fH X N' scope cl C s H fp) ng fe)
  (hs:∀x,foldedSetIterable dr X.env x=pure x:=by intro _;rfl):PE X (.ListComp ng [⟨tg,dr,pM,0⟩] scope pos) (Sj X.K wi nT cap tgF fc fe):=by
 intro ae s σ H Q I h;rw[eval_ListComp];refine wpAny_comprehension_free (use:=none) rfl hs S.clos S.kind S.names (cA (hi ae s σ H _ I h) λv s1 h1=>cA h1 λD s2 h2=>?_);obtain⟨it,fp,tn,J,H2,e,I2,T,U,f2,N1,ρ,items,ds,f,rep,j,hsz,k,q⟩:=h2;subst e;refine jC M S c d O hc he I2 T U f2 rep f j hsz k (RR:=λl C=>compPost (model X.prog X.w) X.A X.xe none (EP X ae σ Q) l C) ?_;intro Dd C s' H' N vs m n p hm fC x r hl;refine⟨m,hm,λh' a=>⟨.ref Dd,H',?_,rfl,q Dd vs H' N n x r hl⟩⟩;obtain⟨t,c1,E,u,z,B⟩:=fC;exact p.turned (t':=s'.toks) (λb o hb e=>(a.2 b hb).trans e) t c1 u z B
theorem FM (M:X.calm=true)(f:X.N.Nodup)(O:X.N[i]? = some y)(hy:X.env.kindOf y=some .local)
  (U:swapsWith (.ListComp ng [⟨tg,dr,pM,0⟩] scope pos) (some (.Name y py)) spos.line X.env=pure true)
  (S:CompSc X scope cl) (j:kQ X N' scope cl nT cap) (hi:PI X tg dr wi)
  (k:∀C s H fp,PG (fH X N' scope cl C s H fp) tg g) (l:E4 X.K nT tgF g) (hc:∀C s H fp,JC (fH X N' scope cl C s H fp) pM fc) (he:∀C s H fp,JE (fH X N' scope cl C s H fp) ng fe)
  (hs:∀x,foldedSetIterable dr X.env x=pure x:=by intro _;rfl):
  PS X (.Assign [.Name y py] (.ListComp ng [⟨tg,dr,pM,0⟩] scope pos) spos) (xD (Sj X.K wi nT cap tgF fc fe) (gZ i)):=by
 intro ae s σ H E I h;rw[exec_Assign_Name_used _ _ _ _ U];refine wX (wpAny_standAt (wX ?_));show wpAny _ _ (do let _ <-comprehension (.ListComp ng [⟨tg,dr,pM,0⟩] scope pos) scope X.env _ (newList []) false (eval dr X.env) (some (assign (.Name y py) X.env))) _ _ s;refine wX (wpAny_mono (wpAny_comprehension_free (use:=some (assign (.Name y py) X.env)) (Q:=λ_ s'=>SP X ae E .next s') rfl hs S.clos S.kind S.names
  (cA (hi ae s σ H _ I h) λv s1 h1=>cA h1 λQQ s2 h2=>?_)) (λ_ s' hq=>wY (wY hq)) λ_ _ e=>e)
 obtain⟨it,fp,tn,J,H2,e,I2,T,n,f2,N1,ρ,items,ds,p,rep,t,hsz,u,q⟩:=h2;subst e;refine jC M S j k l hc he I2 T n f2 rep p t hsz u (RR:=λB C=>compPost (model X.prog X.w) X.A X.xe (some (assign (.Name y py) X.env)) (λ_ s'=>SP X ae E .next s') B C) ?_;intro Dd C s' H' N vs m D F hm fC x G hl;show wpAny _ _ (assign (.Name y py) X.env (.ref Dd)) _ _ s';obtain⟨L,c1,c2,P,d,R⟩:=fC;refine wpAny_assign_Name (nj F f O (.inl hy) (r:=show aZ (.ref Dd) (.ref Dd)from rfl) (λV W ⟨a,Y,ha⟩=>?_) (.inr hy));have Z:C≠a:=by
  rcases ha with z|z
  ·rw[z];exact c1
  ·exact λw=>d y a z w.symm
 refine⟨m,hm.sameBut Y Z,λh' c=>⟨_,H',?_,q Dd vs H' N D x G hl⟩⟩;exact W.turned (t':=V.toks) (λb o hb e=>(c.2 b hb).trans e) L c1 P d R
variable {tl:TE}
theorem Pd (N':LS)(hl:PE X dr tl)(hc:∀ {C s H fp},JC (fH X N' scope (dm scope.names X.env.cells []) C s H fp) pM fc)(he:∀ {C s H fp},JE (fH X N' scope (dm scope.names X.env.cells []) C s H fp) ng fe)
  (O:E4 X.K nT tgF g:=by first|exact mv (by decide)|exact EQ (by decide)) (T:∀ {C s H fp},PG (fH X N' scope (dm scope.names X.env.cells []) C s H fp) tg g:=by intros;first|exact Hf 0|exact vi rfl (gz (Hf 0) (gz (Hf 1) p6)))
  (U:kQ X N' scope (dm scope.names X.env.cells []) nT cap:=by repeat first|exact .nil rfl|refine QH rfl rfl ?_)
  (S:CompSc X scope (dm scope.names X.env.cells []):=by exact IP) (M:X.calm=true:=by rfl)
  (hs:∀x,foldedSetIterable dr X.env x=pure x:=by intro _;rfl):
  PE X (.ListComp ng [⟨tg,dr,pM,0⟩] scope pos) (Sj X.K (Kc X.K tl) nT cap tgF fc fe):=FL M S U (kT hl) (λ_ _ _ _=>T) O (λ_ _ _ _=>hc) (λ_ _ _ _=>he) hs
end
structure p4 (m:Addr)(B N H H':Hp):Prop where
 hh:∀a o,a≠m->H a=some o->H' a=some o
 bn:aT B N
 nh:aT N H'
 new:∀a o,N a=some o->B a=some o\/H a=none
section
variable {m:Addr}{B N N2 H H1 H2:Hp}
theorem p4.trans (x:p4 m B N H H1)(y:p4 m N N2 H1 H2)(h:H m≠none)(M:N2 m=none):p4 m B N2 H H2 :=
 ⟨λa o n e=>y.hh a o n (x.hh a o n e),x.bn.trans y.bn,y.nh,λa o e=>(y.new a o e).elim (x.new a o) λq=>.inr (by
  have n:a≠m:=λz=>by rw[z,M]at e;cases e
  cases z:H a with
  |none=>rfl
  |some o'=>rw[x.hh a o' n z]at q;cases q)⟩
theorem Ext.toM (x:Ext B N H H1):p4 m B N H H1:=⟨λa o _ e=>x.hh a o e,x.bn,x.nh,x.new⟩
end
noncomputable abbrev cG (l:LI):D:=.lst (l.map .int)
abbrev oD (M:List LI):D:=.lst (M.map cG)
structure Made (K:Frag)(W:Int->List (List Int))(N H:Hp)(m:Addr):Prop where
 nn:N m=none
 ex:∃(aL:List (dO×V))(ob:Obj),H m=some (.dK aL ob)/\(aL.map (·.1)).Nodup/\(∀k∈aL.map (·.1),∃n:Nat,k=.inl (n:Int)/\n<100)/\∀n v,fL aL (.inl n)=some v->Is K N v (oD (W n))
theorem Made.up {K:Frag}{W:Int->List LI}{N H N' H':Hp}{m:Addr}(h:Made K W N H m)(s:aT N N')(M:N' m=none)(e:H' m=H m):Made K W N' H' m :=
 let ⟨aL,ob,h1,h2,h3,h4⟩:=h.ex;⟨M,aL,ob,e.trans h1,h2,h3,λn v q=>(h4 n v q).mono s⟩
def Wq (K:Frag)(ab:LD)(aa:Int)(W:Int->List LI)(rk:Int->Nat)(k:Nat):Sp:=λvs H Q _=>∃(B:Hp)(n:Nat)(m:Addr)(M:V),vs=[M,.int aa,.int n,.ref m]/\(aT B H/\Tb K B)/\Is K B M (.tup ab)/\n<100/\rk n<k/\Made K W B H m /\
 ∀v H' N,p4 m B N H H'->Made K W N H' m->Is K N v (oD (W n))->Q v H'
open PySem.W (Frag)
def Wr (K:Frag):R2:=λx y H Q=>∃(a b:Addr)(xs ys:LV),x=.ref a/\y=.ref b/\fx K H a xs/\fx K H b ys/\xs.length+ys.length<=sizeLine/\∀p,H p=none->Q (.ref p) (upd H p (.lst (xs++ys)))
section
variable {X:Cx}
theorem Pe:dN X (binaryOp .Add) (Wr X.K):=by
 intro ae s σ H x y v u Q I c d q;obtain⟨l,e,vs,i,rfl,rfl,h,h',hz,q⟩:=q;cases c
 cases d
 obtain⟨its,O,f,j⟩:=I.list h;obtain⟨M,T,p2,k⟩:=I.list h';obtain⟨⟨c1,d1,m,s1⟩,U,a,n1,k1⟩:=f.isList;obtain⟨⟨n,d2,o,s2⟩,b,e2,n2,k2⟩:=p2.isList;dsimp only at a k1 e2 k2;subst a;subst k1;subst e2;subst k2;have hsz:its.toArray.size+M.toArray.size<=sizeLine:=by
  rw[vH,vH,<-O.length,<-T.length];exact hz
 have g:its.toArray++M.toArray=(its++M).toArray:=by simp
 refine concat_meets ⟨_,U,rfl⟩ ⟨_,b,rfl⟩ noFill_list_add seq_list_add slot_list_add entry_list_add (PySem.F.args_list_add_2 _ _) (list_addW l e its.toArray M.toArray n1 n2 d1 d2 s1 s2 hsz) ⟨U,b,?_⟩;rw[g];exact⟨.ref s.heap.objs.size,_,I.lnew (t':=s.toks) (O.append T) (by rw[uZ];exact hz),rfl,q _ I.fresh⟩
end
section
variable {K:Frag}{N H:Hp}{a:Addr}{vs:LV}{ds:LD}
theorem FN (O:fx K N a vs)(hl:IsL K N vs ds):lL K (L2.Nm K a) N ds:=λi H2 s2=>⟨λd ed=>by
 obtain⟨v,T,iv⟩:=hl.get ed;refine⟨⟨vs,v,s2.seq O,T⟩,λy U hy=>?_⟩;obtain⟨rfl,hy⟩:=hy;have:=hy vs (s2.seq O);rw[T]at this;cases this;exact⟨N,.refl s2,iv⟩,λM=>⟨vs,s2.seq O,by rw[hl.length];exact M⟩⟩
theorem lg (s:aT N H)(h:N a=none){o:HO}:aT N (upd H a o):=λb u e=>by
 rw[aD (λz=>by rw[z,h]at e;cases e)];exact s b u e
theorem ut:∀(l m:LN),l.Nodup->(∀x∈l,x∈m)->l.length<=m.length
 |[],_,_,_=>uN _
 |x::l,m,h,s=>by
  rw[nodup_cons]at h;have hx:=s x mX;have:=ut l (m.erase x) h.2 λy hy=>(List.mem_erase_of_ne (a:=y) (b:=x) (λe=>h.1 (by rw[<-e];exact hy))).mpr (s y (mZ _ hy));rw[List.length_erase_of_mem hx]at this;have:0<m.length:=List.length_pos_of_mem hx;rw[vE];lia
noncomputable def Mx:dO->Nat
 |.inl i=>i.toNat
 |_=>0
theorem Made.len {aL:List (dO×V)}(h1:(aL.map (·.1)).Nodup)(h2:∀k∈aL.map (·.1),∃n:Nat,k=.inl (n:Int)/\n<100):aL.length<=100:=by
 have h3:((aL.map (·.1)).map Mx).Nodup:=pairwise_map.mpr (List.Pairwise.imp_of_mem (λ{a b} ha hb M e=>M (by
  obtain⟨n,rfl,_⟩:=h2 a ha;obtain⟨m,rfl,_⟩:=h2 b hb;have e:n=m:=by simpa [Mx]using e
  rw[e])) h1)
 have:=ut _ (List.range 100) h3 λx hx=>by
  obtain⟨k,hk,rfl⟩:=vO hx;obtain⟨n,rfl,hn⟩:=h2 k hk;exact mem_range.mpr (by simpa [Mx]using hn)
 rwa [vI,vI,length_range]at this
end
open PySem.W (Frag)
section
variable {m p:Addr}{B N N4 H Hc H4:Hp}{o:HO}
theorem ie (x:Ext N N4 Hc H4)(M:N p=none)(O:Hc p=some o):N4 p=none:=by
 cases z:N4 p with
 |none=>rfl
 |some u=>
  rcases x.new p u z with y|y
  ·rw[M]at y;cases y
  ·rw[O]at y;cases y
theorem Dy (x:p4 m N N4 Hc H4)(M:N p=none)(O:Hc p=some o):N4 p=none:=by
 cases z:N4 p with
 |none=>rfl
 |some u=>
  rcases x.new p u z with y|y
  ·rw[M]at y;cases y
  ·rw[O]at y;cases y
theorem p4.put (x:p4 m B N H Hc)(h0:H p=none)(M:N p=none):p4 m B N H (upd Hc p o) :=
 ⟨λa u n e=>by rw[aD (λz=>by rw[z,h0]at e;cases e)];exact x.hh a u n e,x.bn,lg x.nh M,x.new⟩
end
section
variable {κ:Type}[DecidableEq κ] {aL:List (κ×V)}{k:κ}{v:V}
theorem yH:(jl aL k v).map (·.1)=if(aL.any λkv=>decide (kv.1=k))=true then aL.map (·.1)else aL.map (·.1)++[k]:=by
 unfold jl;split
 ·rw[uP];refine List.map_congr_left λx _=>?_;show(if x.1=k then (x.1,v)else x).1=x.1;split<;>rfl
 ·rw[uW];rfl
theorem Dz (h:(aL.map (·.1)).Nodup):((jl aL k v).map (·.1)).Nodup:=by
 rw[yH];split
 ·exact h
 ·rename_i hk;refine nodup_append.mpr ⟨h,by simp,λa ha b hb e=>hk ?_⟩;obtain⟨x,hx,rfl⟩:=vO ha;exact any_eq_true.mpr ⟨x,hx,xq (e.trans (uT hb))⟩
theorem FP {M:κ->Prop}(h:∀j∈aL.map (·.1),M j)(hk:M k):∀j∈(jl aL k v).map (·.1),M j:=by
 rw[yH];split
 ·exact h
 ·intro j hj;rcases mem_append.mp hj with hj|hj
  ·exact h j hj
  ·rw[uT hj];exact hk
end
open PySem.W (Frag keepIn)
structure FnS (P:Program)(w:World)(K:Frag)(mg:Str->Option Value)(base:Heap)(k:Nat)(x:Str)(sp:Sp):Prop where
 ex:∃(ad:Addr)(fd:FuncData)(ps:List Str),sM P w K mg base xr k ad fd ps sp/\mg x=some (.ref ad)/\keepIn K (.ref ad)=true/\pR K fd ps []
section
variable {P:Program}{w:World}{K:Frag}{mg:SV}{base:Heap}
theorem dB.fqS {x:Str}{st:Stmt}{k:Nat}{sp:Sp}(F:dB K x st)(B:∃h,K.In h/\h.Ns mainGlobals mg)(N:LS)(n:Nat)(len:∀vs H Q E,sp vs H Q E->vs.length=(N.take n).length)
  (hb:∀ {f:Addr}{dG:Value}{A:Around}{outer:List PySem.Env}{s:Shared}{H:Hp}{E:XK}{vs:LV}{Q:VK},N.Nodup->eQ k (A.deeper (envOfC x (aP st) s.heap.objs.size f dG))->sp vs H Q E ->
   ∃t,sP (nu xr P w K mg base N x (aP st) f dG A outer s H E) (cB st) t/\t { nx:=λ_ H'=>Q .non H',rt:=Q } (L2.iJ N vs) H)
  (S:FnScope N (N.take n) (aP st):=by refine⟨rfl,rfl,rfl,?_,rfl,?_,?_⟩<;>decide +kernel)
  (M:∀(kV doc pm:Value)(an:Option Addr)(dG ct:Value)(us:LU),us.length=(N.take n).length->bindArgs (fnOf x x (fK st) (cB st) (aP st) .none kV doc pm an dG ct) ⟨us,[]⟩=pure ((N.take n).zip us):=by
   exact λ_ _ _ _ _ _=>IT _ _ (by(repeat intro);rfl)):FnS P w K mg base (k+1) x sp:=by
 obtain⟨_,X,G⟩:=B;obtain⟨f,fd,O,a⟩:=F;have b:=O;obtain⟨oc,od,kV,doc,pm,an,dG,ct,oi,rfl,c,T⟩:=b.ex;exact⟨f,_,_,AI c T S len λA outer s H vs Q E hr U=>hb S.nd hr U,mg_of X G a,O.kp,O.binds M⟩
theorem FnS.fn {x:Str}{k:Nat}{f:LD->OB}(F:FnS P w K mg base k x (Ie K f)):Fn P w K mg base k x f:=⟨F.ex⟩
end
noncomputable def Sk:D->Bool
 |.int _=>true
 |_=>false
noncomputable def Av:D->Bool
 |.lst ds=>ds.all Sk
 |_=>false
def QK:D->D->OB
 |x,.lst ds=>if Av x=true/\ds.all Av=true then some (.bl (ds.any λd=>cJ d x),false)else none
 |_,_=>none
theorem Kx:∀ {ds:LD},ds.all Sk=true->∃l:LI,ds=l.map .int
 |[],_=>⟨[],rfl⟩
 |d::ds,h=>by
  rw[all_cons,vC]at h;obtain⟨l,e⟩:=Kx h.2;match d,h.1 with
  |.int a,_=>exact⟨a::l,by rw[uY,<-e]⟩
theorem FQ {d:D}(h:Av d=true):∃l,d=cG l:=by
 cases d<;>first|(obtain⟨l,e⟩:=Kx h;exact⟨l,by rw[e]⟩)|(cases h)
theorem FR (l:LI):Av (cG l)=true:=by
 show(l.map D.int).all Sk=true;rw[all_map];exact all_eq_true.mpr λ_ _=>rfl
theorem BC:∀l m:LI,fJ (l.map D.int) (m.map D.int)=decide (l=m)
 |[],[]=>rfl
 |[],_::_=>rfl
 |_::_,[]=>rfl
 |a::l,b::m=>by
  show(cJ (.int a) (.int b) && fJ (l.map D.int) (m.map D.int))=_;rw[BC l m];simp[cJ]
theorem wL (l m:LI):cJ (cG l) (cG m)=decide (l=m):=(by simp only[cG,cJ];exact BC l m)
theorem nN {l:LI}:aQ 39 (cG l)=true:=by
 show(l.map D.int).all (aQ 38)=true;rw[all_map];exact all_eq_true.mpr λ_ _=>rfl
section
variable {X:Cx}
open Classical in
theorem Pf (hu:X.A.units+40<cLine):dN X (compareOp .In) (rD X.K QK):=by
 intro ae s σ H x y v u Q I n o q;obtain⟨B,dx,N,d,b,M,p,t,e,q⟩:=q;cases t<;>try (cases e;done)
 rename_i a vs ds hq hl;simp only[QK]at e;split at e
 ·rename_i ha;cases e
  obtain⟨T,rfl⟩:=FQ ha.1;cases o
  obtain⟨its,r,pl,hz⟩:=I.list (M.seq hq);let f:Value->Bool:=λw=>decide (∃(v:V)(l:LI),aZ v w/\Is X.K H v (cG l)/\l=T);have U:∀ {vs:LV}{ds:LD}{us:LU},bj vs us->IsL X.K B vs ds->ds.all Av=true->us.any f=(ds.any λd=>cJ d (cG T))/\∀w∈us,SeqAt.EqAt X.A.in1 s w v (f w):=by
   intro vs ds us r;induction r generalizing ds with
   |nil=>intro i _;cases i;exact⟨rfl,λ_ h=>nomatch h⟩
   |@cons g z vs us c P C=>
    intro i h;cases i with|@cons _ d1 _ ds O D=>?_
    rw[all_cons,vC]at h;obtain⟨E,e2⟩:=C D h.2;obtain⟨j,rfl⟩:=FQ h.1;have k:f z=cJ (cG j) (cG T):=by
     rw[wL,Bool.eq_iff_iff];constructor
     ·intro h;obtain⟨F,R,G,m,J⟩:=DQ h;have L:F=g:=by
       cases m
       cases O
       cases c
       cases G
       rfl
      subst L;have:=wh I 39 (O.mono M) m nN;rw[wL]at this;exact xq ((DQ this).trans J)
     ·intro h;exact xq ⟨g,j,c,O.mono M,DQ h⟩
    refine⟨by rw[any_cons,any_cons,E,k],λw hw=>?_⟩;rcases vP hw with rfl|hw
    ·rw[k];exact(ED I 39 (show X.A.units+1+39<cLine by lia) nN nN (O.mono M) (p.mono M) c n).2.1
    ·exact e2 w hw
  obtain⟨k1,k2⟩:=U r hl ha.2;refine SeqAt.in_listAt f pl.isList (λw hw=>k2 w (by simpa using hw)) ⟨.bl _,H,I,rfl,?_⟩;rw[show its.toArray.any f=its.any f by simp,k1];exact q.one M (.bl _)
 ·cases e
end
end DL
namespace DL
open PySem PySem.Spec PySem.W PyProof.Rows L2
def Uv (ns:LI):Prop:=∀i∈ns,Builtin.Int.intBits i<=1048576
theorem My {ns:LI}(h:WData.layableAll [WData.list (ns.map WData.int)]=true):Uv ns:=λi hi=>by
 have h1:(WData.list (ns.map WData.int)).layable=true:=layableW_arg h _ (mem_singleton.mpr rfl);have h2:=layableW_item h1 (WData.int i) (uS ⟨i,hi,rfl⟩);unfold WData.layable at h2;have h3:=DQ (vC _ _ ▸ h2).2;unfold WData.weight at h3;unfold Builtin.Int.intBits;lia
theorem walkB {l:PySem.W.OpenLaw}{q:Program}{O:LS}{E:SV->Heap->Prop}{B:World->Heap->Prop}{d:DefRec}{K:Params->Frag}{k:Nat}{x:Str}{f:LD->OB}{L:List (Str×Option (Addr×Addr))}(hn:l.most=some 63)(I:d.params.defaults=[])(hr:eQ k callerA)
  (J:∀(w:World)(h:Heap),B w h->(K w.params).In h) (n:∀w:World,pN (K w.params) L) (Q:(L.all λp=>p.2.isNone || ((recsOf q).find? λe=>e.name == p.1).isSome)=true)
  (F:∀(w:World)(mg:SV)(fa:Addr)(h:Heap),(K w.params).In h->h.Ns mainGlobals mg->mg d.name=some (.ref fa) ->
   ∃fd:FuncData,(∀(s:Shared)(u:Value),BindsTo s fd ⟨[u],[]⟩ [(x,u)])/\∀base:Heap,(K w.params).In base->base.Ns mainGlobals mg->sM l.prog w (K w.params) mg base xr k fa fd [x] (Ie (K w.params) f))
  (R:∀ns:LI,ns.length<=63->Uv ns->∃b,f [.lst (ns.map .int)]=some (.bl true,b)):PySem.W.WalkO q O E B l.row.toRowW d [] (λf vs=>PySem.call f vs):=by
 intro w s₀ C mg mb G Y fa o pm cd doc S kV ho hd QS i t V args vals as j m X Z hlo;obtain rfl:S=.none:=Dflts.none i I;obtain rfl:kV=.none:=Dflts.noKw i;obtain⟨a,vs,ns,rfl,rfl,T0,U,M⟩:=Att.CF hn j Z;have z:=J w _ Y;obtain⟨fd,hb,hF⟩:=F w mg fa _ z G.T.g t;refine enter_call (codeAny_mono (CT (wn L) (λb u e=>?_) (n w).none z G.T.g G.T.b G.T.builtins G.T.nolimit G.T.bmain V T0 U (vR M (by decide)) hr hF hb λH hH hS=>?_) λr s' hq=>?_)
 ·obtain⟨p,hp,e2⟩:=mem_filterMap.mp (kx e);obtain⟨⟨c,P⟩,D,e4⟩:=oY e2;cases e4
  have A:=uR Q p hp;rw[D]at A;rw[Option.isNone_some,Bool.false_or]at A;obtain⟨r,Yt⟩:=uU A;have Yu:PySem.W.tabIn (K w.params) p.1=some (c,P):=by
   rw[(n w).names]at hp;obtain⟨y,_,rfl⟩:=vO hp;exact D
  obtain⟨h1,h2⟩:=PySem.W.tab_of G.T z Yt Yu;exact⟨h2,(h1.tab h2).isCodeTable⟩
 ·obtain⟨b,e⟩:=R ns M (My m);exact⟨H,_,_,b,⟨.refl H,(n w).tb hH⟩,.cons (.lst hS (.flat rfl)) .nil,e,λv H' N x' i' _=>by cases i';rfl⟩
 ·obtain⟨rfl,h2,h3,h4⟩:=hq;exact⟨.inl ⟨.bool true,.bool true,[],rfl,λ_=>rfl,.bool true,Att.CG l _,λ_=>⟨List.Pairwise.nil,λ_ hm=>(nomatch hm)⟩⟩,h2,h3,h4⟩
end DL
namespace Lw
open PySem DL
noncomputable def yI:D:=(.tup [(.str "paper"),(.str "like"),(.str "copy")])
noncomputable def gS:List (PySem.Str×D):=[(("root" : Str),(.tup [(.str "office"),(.str "matters"),(.str "further"),(.str "rule")])),(("named" : Str),(.tup [(.str "day"),(.str "office"),(.str "person")])),(("chosen" : Str),(.tup [(.str "day"),(.str "by"),(.str "office"),(.str "person"),(.str "since")])),(("heir" : Str),(.tup [(.str "day"),(.str "by"),(.str "office"),(.str "person")])),(("death" : Str),(.tup [(.str "day"),(.str "person")])),(("lost" : Str),(.tup [(.str "day"),(.str "person")])),(("found" : Str),(.tup [(.str "day"),(.str "person")])),(("leave" : Str),(.tup [(.str "day"),(.str "by"),(.str "person"),(.str "matters"),(.str "stretch"),(.str "further")])),(("paper" : Str),(.tup [(.str "day"),(.str "by"),(.str "matters"),(.str "stretch"),(.str "whom"),(.str "pieces")])),(("like" : Str),(.tup [(.str "day"),(.str "by"),(.str "matters"),(.str "stretch"),(.str "whom"),(.str "of"),(.str "changes")])),(("copy" : Str),(.tup [(.str "day"),(.str "by"),(.str "of")])),(("call" : Str),(.tup [(.str "day"),(.str "by"),(.str "of")]))]
noncomputable def ij:D:=(.tup [(.str "chosen"),(.str "heir"),(.str "leave"),(.str "paper"),(.str "like"),(.str "copy"),(.str "call")])
def uu:FS :=
  (ba (f2 bD (dE 0 1) (fI 0)))
def aO:=aS uu 1 0
def uw:FS :=
  (ba (f2 bD (dE 0 1) (f2 ca (fI 1) (f2 (pq gS) (fA aO (fV 0 aj)) (ai 1)))))
def aq:=aS uw 2 0
def yJ:FS :=
  (aF (eZ (bw (f2 eV (fA aO (fV 0 aj)) (fS "root"))) (ba (fC .non)) bx)
  (ba (fA aq (fV 0 (af (fS "day") aj)))))
def aV:=aS yJ 1 0
def BD:FS :=
  (ba (bN (EU (ai 0)) 2 [1] (Kp [0,1]) (bw (f2 z9 (dE 1 0) (ai 2))) (ai 0)))
def cK:=aS BD 2 0
def FU:FS :=
  (ba (fA be (af (fA aV (af (f2 bD (ai 0) (ai 1)) aj)) (fV 1 aj))))
def fD:=aS FU 2 0
def qW:FS :=
  (aF (aW 2 (bN (cn (fA cK (fV 0 (fV 1 aj)))) 1 [0] (dj 0) (bw (f2 lN (fA aV (af (f2 bD (ai 1) (ai 0)) aj)) (fC .non))) (ai 0)))
  (ba (qA (ai 2) (qz [0] (fA fD (fV 1 (fV 0 aj)))))))
def dS:=aS qW 2 1
def oE:FS :=
  (ba (fA be (af (dE 0 0) (af (dE 0 2) (af (dE 0 4) aj)))))
def gB:=aS oE 1 0
def BE:FS :=
  (aF (aW 2 (bN (cn (fA cK (fV 0 (fV 1 aj)))) 1 [0] (dj 0) fM (f2 bD (ai 1) (ai 0))))
  (ba (fA jK (af (bN (cn (ai 2)) 1 [] (dj 0) (bw (f2 eV (fA aO (fV 0 aj)) (fS "root"))) (fA be (af (fA aq (fV 0 (af (fS "office") aj))) (fV 0 aj)))) aj))))
def gw:=aS BE 2 1
def qX:FS :=
  (ba (lz (nz z9 Km (fI 0) (ai 2) (fA gd (fV 0 aj))) (f2 z9 (f2 bD (f2 bD (ai 0) (ai 2)) (fI 0)) (ai 1))))
def cH:=aS qX 3 0
def BF:FS :=
  (ba (lz (f2 ph (fA aO (fV 0 aj)) (ai 1)) (lz (f2 eV (fA aq (fV 0 (af (fS "person") aj))) (ai 2)) (f2 z9 (fA aV (fV 0 aj)) (ai 3)))))
def pG:=aS BF 4 0
def ux:FS :=
  (ba (bN (cn (fA cK (fV 0 (fV 1 aj)))) 1 [2,3,4,0] (dj 0) (bw (fA pG (af (f2 bD (ai 4) (ai 0)) (fV 1 (fV 2 (fV 3 aj)))))) (ai 0)))
def gX:=aS ux 5 0
def BG:FS :=
  (ba (f2 eV (fA gd (af (fA gX (fV 0 (fV 1 (af (fA be (af (fS "death") aj)) (fV 2 (fV 3 aj)))))) aj)) (fI 0)))
def mD:=aS BG 4 0
def qY:FS :=
  (aF (aW 4 (fA gX (fV 0 (fV 1 (af (fA be (af (fS "lost") (af (fS "found") aj))) (fV 2 (fV 3 aj)))))))
  (aF (eZ (bw (f2 eV (fA gd (fV 4 aj)) (fI 0))) (ba (fC (.bl true))) bx)
  (ba (f2 eV (fA aO (af (f2 bD (ai 0) (uh (ai 4) (qz [0] (fA fD (fV 1 (fV 0 aj)))))) aj)) (fS "found")))))
def lV:=aS qY 4 1
def qZ:FS :=
  (aF (eZ (jm (eX (bw (fA cH (fV 0 (fV 1 (fV 2 aj)))))) (bw (f2 hW (fA aO (af (f2 bD (ai 0) (ai 2)) aj)) (fC ij)))) (ba (fC (.bl false))) bx)
  (aF (aW 3 (fA aq (af (f2 bD (ai 0) (ai 2)) (af (fS "by") aj))))
  (aF (aW 4 (fA aV (af (f2 bD (ai 0) (ai 2)) aj)))
  (ba (lz (fA mD (fV 0 (fV 1 (fV 3 (fV 4 aj))))) (fA lV (fV 0 (fV 1 (fV 3 (fV 4 aj))))))))))
def dU:=aS qZ 3 2
def uy:FS :=
  (ba (lz (f2 z9 (dE 1 0) (ai 0)) (LL (f2 DX (dE 1 1) (fC .non)) (f2 Km (ai 0) (dE 1 1)))))
def j0:=aS uy 2 0
def ra:FS :=
  (ba (fA j0 (fV 1 (af (fA be (af (dE 0 2) (af (dE 0 3) aj))) aj))))
def cU:=aS ra 2 0
def rb:FS :=
  (ba (fA be (af (dE 0 2) (af (dE 0 4) aj))))
def dw:=aS rb 1 0
def rd:FS :=
  (aF (eZ (bw (f2 eV (ai 1) (fS "last"))) (ba (f2 bD (uh (ai 0) (tm dw)) (fI 1))) bx)
  (ba (f2 bD (ui (ai 0) (tm dw)) (fI 1))))
def lW:=aS rd 2 0
def oF:FS :=
  (aF (aW 3 (bN (cn (ai 0)) 1 [2,1] (dj 0) (fF (bw (f2 eV (dE 0 0) (fA aq (fV 2 (af (fS "office") aj))))) (bw (fA cU (fV 0 (fV 1 aj))))) (ai 0)))
  (aF (aW 4 (f1 gA (bN (cn (ai 3)) 1 [] (dj 0) fM (dE 0 1))))
  (aF (eZ (bw (f2 eV (fA gd (fV 4 aj)) (fI 0))) (ba (fA be (af (fS "none") aj))) bx)
  (aF (eZ (fF (bw (f2 CP (fA gd (fV 4 aj)) (fI 1))) (bw (f2 eV (fA aq (fV 1 (af (fS "rule") aj))) (fS "open")))) (ba (fA be (af (fS "parted") (fV 4 aj)))) bx)
  (aF (aW 5 (fA lW (fV 3 (af (fA aq (fV 1 (af (fS "rule") aj))) aj))))
  (aF (aW 6 (ui (bN (cn (ai 3)) 1 [5] (dj 0) (bw (f2 eV (dE 0 1) (ai 1))) (ai 0)) (tm dw)))
  (ba (fA be (af (fS "one") (fV 5 (af (dE 6 4) aj)))))))))))
def dW:=aS oF 3 4
def mE:FS :=
  (ba (f2 eV (Bh (fA dW (fV 0 (fV 1 (fV 3 aj)))) jp (iL (fI 2))) (fA be (af (fS "one") (fV 2 aj)))))
def cP:=aS mE 4 0
def j4:FS :=
  (aF (aW 3 (f2 bD (ai 0) (ai 2)))
  (aF (aW 4 (fA gX (fV 0 (fV 1 (af (fA be (af (fS "death") aj)) (af (fA aq (fV 3 (af (fS "person") aj))) (af (fA aV (fV 3 aj)) aj)))))))
  (ba (f2 eV (ui (ai 4) (qz [0] (fA fD (fV 1 (fV 0 aj))))) (ai 2)))))
def gh:=aS j4 3 2
def yK:FS :=
  (aF (aW 4 (f2 bD (ai 0) (ai 3)))
  (aF (eZ (bw (f2 eV (fA aO (fV 4 aj)) (fS "death"))) (ba (fA gh (fV 0 (fV 1 (fV 3 aj))))) bx)
  (aF (eZ (bw (f2 hW (fA aO (fV 4 aj)) (fA be (af (fS "named") (af (fS "chosen") (af (fS "heir") aj)))))) (ba (fC (.bl false))) bx)
  (aF (aW 5 (f2 Fs (fA gw (fV 0 (fV 1 aj))) (fA aq (fV 4 (af (fS "office") aj)))))
  (aF (eZ (bw (f2 DX (ai 5) (fC .non))) (ba (fC (.bl false))) bx)
  (aF (eZ (bw (f2 eV (fA aO (fV 4 aj)) (fS "named"))) (ba (fC (.bl true))) bx)
  (ba (lz (fA dU (fV 0 (fV 1 (fV 3 aj)))) (fA cP (fV 2 (fV 5 (af (fA aq (fV 4 (af (fS "by") aj))) (af (fA aV (fV 4 aj)) aj)))))))))))))
def mF:=aS yK 4 2
def oG:FS :=
  (ba (fA be (af (fA aq (fV 0 (af (fS "office") aj))) (af (fA aq (fV 0 (af (fS "person") aj))) (fV 1 (af (fC .non) (fV 2 aj)))))))
def gE:=aS oG 3 0
def re:FS :=
  (eZ (jm (bw (f2 hW (dE 5 0) (ai 1))) (jm (bw (f2 zT (dE 5 1) (ai 2))) (eX (jm (bw (fA cU (fV 5 (fV 3 aj)))) (bw (f2 CP (dE 5 2) (ai 3))))))) (km 4 (ai 5)) (eZ (bw (f2 Km (dE 5 2) (ai 3))) (km 4 (fA be (af (dE 5 0) (fV 2 (af (dE 5 2) (fV 3 (af (dE 5 4) aj))))))) bx))
def BH:FS :=
  (aF (aW 4 (fA bI aj))
  (aF (sV (cn (ai 0)) (dj 5) re)
  (jn 4)))
def pH:=aS BH 4 2
def kE:FS :=
  (aF (aW 3 (fA aq (fV 1 (af (fS "since") aj))))
  (aF (aW 4 (fA pH (fV 0 (af (fA bI (af (fA aq (fV 1 (af (fS "office") aj))) aj)) (af (fA aq (fV 1 (af (fS "by") aj))) (fV 3 aj))))))
  (ba (f2 ca (ai 4) (fA bI (af (fA gE (fV 1 (fV 3 (fV 2 aj)))) aj))))))
def im:=aS kE 3 2
def gT:FS :=
  (aF (aW 9 (F3 (ai 3) (fV 8 (fV 5 aj))))
  (eZ (fF (bw (f2 lN (ai 9) (fC .non))) (bw (fA mD (fV 0 (fV 1 (fV 9 (fV 6 aj))))))) (km 7 (fA be (fV 8 (fV 9 (fV 6 (af (fC .non) (fV 4 aj))))))) bx))
def oH:FS :=
  (aF (aW 5 (fA aq (af (f2 bD (ai 0) (ai 4)) (af (fS "person") aj))))
  (aF (aW 6 (fA aV (af (f2 bD (ai 0) (ai 4)) aj)))
  (aF (aW 7 (fA bI aj))
  (aF (RY [5,6] (sV (cn (f1 gA (bN (cn (ai 2)) 1 [5,6] (dj 0) (fF (bw (f2 eV (dE 0 1) (ai 1))) (bw (fA cU (fV 0 (fV 2 aj))))) (dE 0 0)))) (dj 8) gT))
  (jn 7)))))
def kF:=aS oH 5 5
def lG:FS :=
  (aF (aW 5 (bN (cn (ai 2)) 1 [] (dj 0) fM (dE 0 0)))
  (aF (aW 6 (fA pH (fV 2 (fV 5 (af (fA aq (af (f2 bD (ai 0) (ai 4)) (af (fS "person") aj))) (af (fA aV (af (f2 bD (ai 0) (ai 4)) aj)) aj))))))
  (ba (f2 ca (ai 6) (fA kF (fV 0 (fV 1 (fV 2 (fV 3 (fV 4 aj))))))))))
def jb:=aS lG 5 2
def lh:FS :=
  (aF (aW 5 (f2 bD (ai 0) (ai 4)))
  (aF (eZ (eX (bw (fA mF (fV 0 (fV 1 (fV 2 (fV 4 aj))))))) Kq bx)
  (eZ (bw (f2 eV (fA aO (fV 5 aj)) (fS "named"))) (aW 2 (f2 ca (ai 2) (fA bI (af (fA gE (fV 5 (af (fA aV (fV 5 aj)) (fV 4 aj)))) aj)))) (eZ (bw (f2 eV (fA aO (fV 5 aj)) (fS "chosen"))) (aW 2 (fA im (fV 2 (fV 5 (fV 4 aj))))) (eZ (bw (f2 eV (fA aO (fV 5 aj)) (fS "heir"))) (um 3 (af (fA aq (fV 5 (af (fS "office") aj))) (af (fA aq (fV 5 (af (fS "by") aj))) aj)) (fA aq (fV 5 (af (fS "person") aj)))) (aW 2 (fA jb (fV 0 (fV 1 (fV 2 (fV 3 (fV 4 aj))))))))))))
def yL:FS :=
  (aF (aW 2 (fA bI aj))
  (aF (Fv 3)
  (aF (sV (cn (fA dS (fV 0 (fV 1 aj)))) (dj 4) lh)
  (ba (qA (ai 2) (tm gB))))))
def kG:=aS yL 2 4
def rf:FS :=
  (ba (lz (fA cH (fV 0 (fV 1 (fV 2 aj)))) (f2 ph (fA aO (af (f2 bD (ai 0) (ai 2)) aj)) (fC yI))))
def fE:=aS rf 3 0
def rg:FS :=
  (ba (lz (fA cH (fV 0 (fV 1 (fV 2 aj)))) (f2 eV (fA aO (af (f2 bD (ai 0) (ai 2)) aj)) (fS "leave"))))
def gk:=aS rg 3 0
def rh:FS :=
  (ba (LL (fA gk (fV 0 (fV 1 (fV 2 aj)))) (fA fE (fV 0 (fV 1 (fV 2 aj))))))
def dX:=aS rh 3 0
def ri:FS :=
  (ba (f2 eV (f2 O6 (ai 0) (ai 1)) (ai 1)))
def io:=aS ri 2 0
def oJ:FS :=
  (aF (eZ (eX (bw (fA io (af (fA aq (fV 1 (af (fS "matters") aj))) (af (fA aq (fV 0 (af (fS "matters") aj))) aj))))) (ba (fS "matters")) bx)
  (aF (eZ (fF (bw (f2 eV (fA aO (fV 0 aj)) (fS "leave"))) (bw (f2 RO (fA aq (fV 0 (af (fS "further") aj))) (fA aq (fV 1 (af (fS "further") aj)))))) (ba (fS "further")) bx)
  (ba (fC .non))))
def iQ:=aS oJ 2 0
def mG:FS :=
  (aF (eZ (eX (bw (fA cP (fV 0 (fV 2 (af (fA aq (fV 1 (af (fS "by") aj))) (af (fA aV (fV 1 aj)) aj))))))) (ba (fS "holder")) bx)
  (ba (fA iQ (fV 1 (fV 2 aj)))))
def gU:=aS mG 3 0
def kH:FS :=
  (aF (aW 4 (f2 bD (ai 0) (ai 3)))
  (aF (aW 5 (bN (qK (fA gw (fV 0 (fV 1 aj)))) 1 [2,4] (dj 0) (bw (f2 DX (fA gU (fV 1 (fV 2 (fV 0 aj)))) (fC .non))) (ai 0)))
  (ba (bN (cn (ai 5)) 1 [2,4] (dj 0) fM (fA be (af (fS "office") (af (fA aq (fV 0 (af (fS "office") aj))) (af (f2 bD (fA dW (fV 1 (fV 0 (af (fA aV (fV 2 aj)) aj)))) (fI 2)) aj))))))))
def iq:=aS kH 4 2
def lH:FS :=
  (aF (eZ (bw (f2 DX (ai 1) (fC .non))) (ba (fC (.bl true))) bx)
  (ba (lz (f2 lN (ai 0) (fC .non)) (f2 z9 (ai 0) (ai 1)))))
def jc:=aS lH 2 0
def oK:FS :=
  (ba (lz (f2 z9 (dE 1 0) (dE 0 0)) (fA jc (af (dE 0 1) (af (dE 1 1) aj)))))
def iR:=aS oK 2 0
def rj:FS :=
  (ba (f2 KU (fA fD (fV 0 (fV 1 aj))) (fA fD (fV 0 (fV 2 aj)))))
def gm:=aS rj 3 0
def oM:FS :=
  (aF (aW 3 (f2 bD (ai 0) (ai 1)))
  (aF (aW 4 (fA aq (af (f2 bD (ai 0) (ai 2)) (af (fS "stretch") aj))))
  (aF (eZ (eX (bw (fA gm (fV 0 (fV 2 (fV 1 aj)))))) (ba (fS "order")) bx)
  (aF (eZ (jm (eX (bw (fA j0 (af (fA aV (fV 3 aj)) (fV 4 aj))))) (eX (bw (fA iR (af (fA aq (fV 3 (af (fS "stretch") aj))) (fV 4 aj)))))) (ba (fS "days")) bx)
  (ba (fA iQ (fV 3 (af (f2 bD (ai 0) (ai 2)) aj))))))))
def iS:=aS oM 3 2
def oN:FS :=
  (aF (aW 3 (bN (cn (fA cK (fV 0 (fV 1 aj)))) 1 [0,1] (dj 0) (bw (fA gk (fV 1 (fV 2 (fV 0 aj))))) (ai 0)))
  (ba (bN (cn (ai 3)) 1 [2,0] (dj 0) (bw (f2 eV (fA aq (af (f2 bD (ai 2) (ai 0)) (af (fS "person") aj))) (ai 1))) (ai 0))))
def kI:=aS oN 3 1
def lI:FS :=
  (aF (aW 3 (fA kI (fV 0 (fV 1 (af (fA aq (af (f2 bD (ai 0) (ai 2)) (af (fS "by") aj))) aj)))))
  (ba (bN (cn (ai 3)) 1 [0,2] (dj 0) (bw (f2 DX (fA iS (fV 1 (fV 2 (fV 0 aj)))) (fC .non))) (fA be (af (fS "leave") (fV 0 aj))))))
def jd:=aS lI 3 1
def mH:FS :=
  (aF (aW 3 (fA aq (af (f2 bD (ai 0) (ai 2)) (af (fS "of") aj))))
  (aF (eZ (fF (bw (fA fE (fV 0 (fV 1 (fV 3 aj))))) (bw (fA gm (fV 0 (fV 3 (fV 2 aj)))))) (ba (fA bI (af (fA be (af (fS "copy") (fV 3 aj))) aj))) bx)
  (ba (fA bI aj))))
def jM:=aS mH 3 1
def rm:FS :=
  (aF (eZ (eX (bw (fA dX (fV 0 (fV 1 (fV 3 aj)))))) (ba (fA bI aj)) bx)
  (aF (eZ (bw (f2 eV (fA aO (af (f2 bD (ai 0) (ai 3)) aj)) (fS "copy"))) (ba (fA jM (fV 0 (fV 1 (fV 3 aj))))) bx)
  (aF (aW 4 (f2 ca (fA iq (fV 0 (fV 1 (fV 2 (fV 3 aj))))) (fA jd (fV 0 (fV 1 (fV 3 aj))))))
  (ba (Ar (ai 4) (qz [] (fA be (af (f2 bD (ai 0) (f1 xX (fI 1))) (fV 0 aj)))))))))
def dY:=aS rm 4 1
def ro:FS :=
  (aF (aW 5 (f2 bD (ai 0) (ai 4)))
  (aF (aW 6 (fA aq (af (f2 bD (ai 0) (ai 3)) (af (fS "by") aj))))
  (aF (eZ (bw (f2 eV (ai 6) (fA aq (fV 5 (af (fS "by") aj))))) (ba (fC (.bl true))) bx)
  (aF (eZ (bw (f2 eV (fA aO (fV 5 aj)) (fS "copy"))) (ba (fC (.bl false))) bx)
  (aF (aW 7 (bN (qK (fA gw (fV 0 (fV 1 aj)))) 1 [5] (dj 0) (bw (fA io (af (fA aq (fV 0 (af (fS "matters") aj))) (af (fA aq (fV 1 (af (fS "matters") aj))) aj)))) (ai 0)))
  (ba (fA EK (af (bN (cn (ai 7)) 1 [2,6,0,3] (dj 0) fM (fA cP (fV 1 (fV 0 (fV 2 (af (fA aV (af (f2 bD (ai 3) (ai 4)) aj)) aj)))))) aj))))))))
def lX:=aS ro 5 3
def rq:FS :=
  (aF (aW 6 (f2 bD (ai 0) (ai 3)))
  (aF (eZ (jm (bw (f2 zT (fA aO (fV 6 aj)) (fS "call"))) (jm (bw (f2 zT (fA aq (fV 6 (af (fS "of") aj))) (ai 4))) (bw (f2 CP (fA aV (fV 6 aj)) (ai 5))))) (ba (fC (.bl false))) bx)
  (ba (lz (fA dU (fV 0 (fV 1 (fV 3 aj)))) (fA lX (fV 0 (fV 1 (fV 2 (fV 3 (fV 4 aj))))))))))
def jN:=aS rq 6 1
def rz:FS :=
  (aF (eZ (eX (bw (fA dX (fV 0 (fV 1 (fV 3 aj)))))) (ba (fA bI aj)) bx)
  (ba (bN (cn (fA cK (fV 0 (fV 1 aj)))) 1 [0,1,2,3,4] (dj 0) (bw (fA jN (fV 1 (fV 2 (fV 3 (fV 0 (fV 4 (fV 5 aj)))))))) (ai 0))))
def jO:=aS rz 5 0
def yM:FS :=
  (aF (eZ (jm (eX (bw (fA dU (fV 0 (fV 1 (fV 3 aj)))))) (bw (f2 CP (fA aV (af (f2 bD (ai 0) (ai 3)) aj)) (ai 4)))) (ba (fC (.bl false))) bx)
  (ba (f2 eV (fA gd (af (fA jO (fV 0 (fV 1 (fV 2 (fV 3 (fV 4 aj)))))) aj)) (fI 0))))
def mI:=aS yM 5 0
def yN:FS :=
  (eZ (fF (bw (fA dX (fV 0 (fV 1 (fV 5 aj))))) (bw (fA mI (fV 0 (fV 1 (fV 3 (fV 5 (fV 2 aj)))))))) (qM 4 (ai 5) (fA dY (fV 0 (fV 1 (fV 3 (fV 5 aj)))))) bx)
def BI:FS :=
  (aF (xO 3 (fA kG (fV 0 (fV 1 aj))))
  (aF (B1 4)
  (aF (sV (cn (fA dS (fV 0 (fV 1 aj)))) (dj 5) yN)
  (jn 4))))
def lm:=aS BI 3 3
def BJ:FS :=
  (ba (LL (f2 eV (dE 0 0) (fS "office")) (f2 Mm (dE 0 1) (ai 1))))
def mJ:=aS BJ 2 0
def yO:FS :=
  (eZ (bw (fA EK (af (bN (cn (ai 3)) 1 [1] (dj 0) fM (fA mJ (fV 0 (fV 1 aj)))) aj))) (yB 1 (ai 2) (fC (.bl true))) bx)
def BK:FS :=
  (aF (B1 1)
  (aF (sV (B6 (ai 0)) (Kp [2,3]) yO)
  (jn 1)))
def wM:=aS BK 1 3
def r6:FS :=
  (ba (fA jx (af (fA wM (af (fA lm (fV 0 (fV 1 (fV 2 aj)))) aj)) aj)))
def lY:=aS r6 3 0
def rA:FS :=
  (ba (f2 ph (ai 1) (bN (cn (ai 0)) 1 [] (dj 0) (bw (f2 eV (dE 0 0) (fS "office"))) (dE 0 2))))
def jP:=aS rA 2 0
def oP:FS :=
  (ba (f2 ph (ai 1) (bN (cn (ai 0)) 1 [] (dj 0) (bw (f2 zT (dE 0 0) (fS "office"))) (dE 0 1))))
def iT:=aS oP 2 0
def rB:FS :=
  (aF (aW 4 (fA lm (fV 0 (fV 1 (fV 2 aj)))))
  (aF (eZ (jm (bw (f2 Km (fA gd (fV 3 aj)) (fI 2))) (eX (bw (fA zV (af (bN (cn (Bh (ai 3) (iL (fI 1)) jp)) 1 [4] (dj 0) fM (f2 Mm (ai 0) (ai 1))) aj))))) (ba (fC (.bl false))) bx)
  (aF (eZ (eX (bw (fA jP (af (f2 Ku (ai 4) (dE 3 1)) (af (dE 3 0) aj))))) (ba (fC (.bl false))) bx)
  (ba (fA zV (af (bN (FJ (Bh (ai 3) (iL (fI 1)) jp) (Bh (ai 3) (iL (fI 2)) jp)) 2 [4] (Kp [0,1]) fM (fA iT (af (f2 Ku (ai 2) (ai 1)) (fV 0 aj)))) aj))))))
def jQ:=aS rB 4 1
def yP:FS :=
  (aF (aW 2 (fI 5))
  (aF (eZ (bw (f2 CP (fA gd (fV 0 aj)) (fI 0))) (aW 2 (f2 bD (ai 0) (f2 bO (ai 1) (fA gd (fV 0 aj))))) bx)
  (aF (aW 2 (f2 bO (f2 g7 (f2 ca (f2 ca (f2 bO (ai 2) (fI 2147483629)) (f2 g7 (fI 6151) (ai 1))) (fI 1)) (fI 48271)) (fI 2147483647)))
  (ba (f2 bO (f2 g7 (ai 2) (f2 ca (f2 ca (f2 bO (ai 2) (fI 65519)) (ai 1)) (fI 2))) (fI 2147483629))))))
def df:=aS yP 2 1
def lZ:FS :=
  (aF (aW 6 (fA jI (fV 2 aj)))
  (aF (Aa 6 (ai 3) (f2 bD (ai 1) (f2 bO (f2 ca (f2 cR (ai 0) (fI 64)) (f2 g7 (fI 3) (ai 5))) (fI 26))))
  (km 4 (f2 oy (fS "") (ai 6)))))
def uz:FS :=
  (aF (aW 1 (fS "abcdefghijklmnopqrstuvwxyz"))
  (aF (aW 2 (bN (gK (f2 ca (fI 1) (f2 bO (ai 0) (fI 8)))) 1 [1,0] (dj 0) fM (f2 bD (ai 1) (f2 bO (f2 cR (ai 2) (f2 ca (fI 3) (f2 g7 (fI 4) (ai 0)))) (fI 26)))))
  (aF (aW 3 (f2 bO (f2 cR (ai 0) (fI 8)) (fA gd (fV 2 aj))))
  (aF (aW 4 (fA bI aj))
  (aF (ot (gK (fI 7)) (dj 5) lZ)
  (aF (eZ (bw (f2 eV (f2 bO (f2 cR (ai 0) (fI 1000)) (fI 8)) (fI 1))) (Aa 4 (fI 5) (dE 4 0)) bx)
  (jn 4)))))))
def nO:=aS uz 1 6
def oQ:FS :=
  (aF (aW 3 (fA bI (af (fA be (af (fI 0) (af (fC .non) aj))) (af (fA be (fV 1 (af (fC .non) aj))) (af (fA be (fV 1 (af (f2 ca (ai 1) (f2 g7 (fI 3) (ai 2))) aj))) (af (fA be (af (fI 0) (af (f2 ca (ai 1) (f2 g7 (fI 2) (ai 2))) aj))) (af (fA be (af (fI 0) (af (f2 g7 (fI 9) (ai 2)) aj))) aj)))))))
  (aF (aW 3 (f2 ca (ai 3) (fA bI (af (fA be (af (f2 ca (ai 1) (ai 2)) (af (f2 ca (ai 1) (f2 g7 (fI 4) (ai 2))) aj))) (af (fA be (af (f2 cR (ai 1) (fI 2)) (af (f2 ca (ai 1) (f2 g7 (fI 6) (ai 2))) aj))) (af (fA be (af (fI 0) (af (fC .non) aj))) aj))))))
  (ba (f2 bD (ai 3) (f2 bO (ai 0) (fI 8))))))
def gF:=aS oQ 3 1
def yQ:FS :=
  (aF (aW 7 (f2 ca (f2 ca (Dp (fA bI (af (fS "leave") aj)) (fI 5)) (Dp (fA bI (af (fS "paper") aj)) (fI 2))) (fA bI (af (fS "like") (af (fS "copy") (af (fS "copy") (af (fS "call") (af (fS "call") aj))))))))
  (aF (aW 7 (f2 ca (ai 7) (fA bI (af (fS "named") (af (fS "death") (af (fS "lost") (af (fS "found") (af (fS "chosen") (af (fS "heir") aj)))))))))
  (aF (aW 8 (f2 bD (ai 7) (f2 bO (ai 1) (fI 18))))
  (aF (aW 9 (f2 bD (ai 5) (f2 zR (f1 xX (fI 1)) (f2 bO (f2 cR (ai 1) (fI 18)) (fA Ij (af (fI 3) (af (fA gd (fV 5 aj)) aj)))))))
  (aF (eZ (bw (f2 eV (f2 bO (f2 cR (ai 1) (fI 54)) (fI 6)) (fI 1))) (aW 9 (f2 bD (ai 3) (f2 bO (f2 cR (ai 1) (fI 324)) (fI 5)))) bx)
  (aF (aW 10 (f2 bD (ai 3) (f2 bO (f2 cR (ai 1) (fI 1620)) (fI 5))))
  (aF (aW 11 (fA Ii (af (fI 0) (af (f2 zR (f2 zR (ai 0) (fI 1)) (f2 bO (ai 2) (fI 4))) aj))))
  (aF (eZ (bw (f2 eV (f2 bO (f2 cR (ai 2) (fI 4)) (fI 8)) (fI 1))) (aW 11 (f2 bO (f2 cR (ai 2) (fI 32)) (fI 60))) bx)
  (aF (eZ (bw (f2 eV (ai 8) (fS "leave"))) (aF (aW 12 (f2 bD (fA bI (af (fI 3) (af (fI 1) (af (fI 7) (af (fI 2) (af (fI 255) (af (fI 5) (af (fI 1) (af (fI 3) aj))))))))) (f2 bO (f2 cR (ai 1) (fI 8100)) (fI 8))))
  (aF (aW 13 (f2 bO (f2 cR (ai 2) (fI 256)) (f2 bD (fA bI (af (fI 5) (af (fI 5) (af (fI 5) (af (fI 10) aj))))) (f2 bO (f2 cR (ai 2) (fI 2560)) (fI 4)))))
  (ba (fA be (fV 8 (fV 4 (fV 9 (fV 10 (fV 12 (af (fA gF (af (f2 cR (ai 2) (fI 32)) (fV 4 (fV 6 aj)))) (fV 13 aj))))))))))) bx)
  (aF (eZ (jm (bw (f2 eV (ai 8) (fS "paper"))) (bw (f2 eV (ai 8) (fS "like")))) (aF (aW 12 (f2 bD (fA bI (af (fI 1) (af (fI 1) (af (fI 3) (af (fI 2) (af (fI 4) (af (fI 5) (af (fI 128) (af (fI 7) aj))))))))) (f2 bO (f2 cR (ai 1) (fI 8100)) (fI 8))))
  (aF (aW 14 (fA be (fV 8 (fV 4 (fV 9 (fV 12 (af (fA gF (af (f2 cR (ai 2) (fI 32)) (fV 4 (fV 6 aj)))) (af (f2 bD (fA bI (af (fC .non) (fV 10 aj))) (f2 bO (f2 cR (ai 2) (fI 256)) (fI 2))) aj))))))))
  (aF (eZ (bw (f2 eV (ai 8) (fS "like"))) (ba (f2 Bw (ai 14) (fA be (fV 11 (af (fA be (af (fA be (af (fI 0) (fV 10 aj))) aj)) aj))))) bx)
  (ba (f2 Bw (ai 14) (fA be (af (fA be (fV 10 aj)) aj))))))) bx)
  (aF (eZ (bw (f2 ph (ai 8) (fA be (af (fS "copy") (af (fS "call") aj))))) (ba (fA be (fV 8 (fV 4 (fV 9 (fV 11 aj)))))) bx)
  (aF (eZ (bw (f2 eV (ai 8) (fS "named"))) (ba (fA be (fV 8 (fV 4 (af (f2 bD (ai 3) (f2 ca (fI 5) (f2 bO (ai 2) (fI 2)))) (fV 10 aj)))))) bx)
  (aF (eZ (bw (f2 eV (ai 8) (fS "chosen"))) (ba (fA be (fV 8 (fV 4 (fV 9 (af (f2 bD (ai 3) (f2 ca (fI 5) (f2 bO (ai 2) (fI 2)))) (fV 10 (af (f2 ca (ai 4) (f2 g7 (f2 bO (f2 cR (ai 2) (fI 32)) (fI 3)) (ai 6))) aj)))))))) bx)
  (aF (eZ (bw (f2 eV (ai 8) (fS "heir"))) (ba (fA be (fV 8 (fV 4 (fV 9 (af (f2 bD (ai 3) (f2 ca (fI 5) (f2 bO (ai 2) (fI 2)))) (fV 10 aj))))))) bx)
  (ba (fA be (fV 8 (fV 4 (fV 9 aj)))))))))))))))))))
def rC:=aS yQ 7 8
def j5:FS :=
  (aF (aW 8 (f2 bD (fA bI (af (fS "open") (af (fS "first") (af (fS "last") aj)))) (f2 bO (f2 cR (ai 4) (f2 ca (fI 64) (f2 g7 (fI 9) (ai 7)))) (fI 3))))
  (aF (aW 9 (f2 bD (fA bI (af (fI 7) (af (fI 255) (af (fI 3) (af (fI 15) aj))))) (f2 bO (f2 cR (ai 4) (f2 ca (fI 2) (f2 g7 (fI 8) (ai 7)))) (fI 4))))
  (aF (aW 10 (f2 g7 (f2 g7 (fA Ab (af (f2 eV (f2 bO (f2 cR (ai 4) (f2 ca (fI 512) (ai 7))) (fI 8)) (fI 1)) aj)) (fI 4)) (ai 2)))
  (aF (aW 11 (f2 bO (f2 cR (ai 4) (f2 ca (fI 1024) (f2 g7 (fI 5) (ai 7)))) (f2 bD (fA bI (af (fI 5) (af (fI 5) (af (fI 10) aj)))) (f2 bO (f2 cR (ai 4) (f2 ca (fI 31) (ai 7))) (fI 3)))))
  (aF (km 5 (fA be (fV 10 (af (fA be (af (fS "root") (af (f2 bD (ai 1) (f2 ca (fI 5) (ai 7))) (fV 9 (fV 11 (fV 8 aj)))))) aj))))
  (aF (km 5 (fA be (af (fI 0) (af (fA be (af (fS "named") (af (fI 0) (af (f2 bD (ai 1) (f2 ca (fI 5) (ai 7))) (af (f2 bD (ai 1) (ai 7)) aj))))) aj))))
  (km 6 (f2 bD (ai 1) (ai 7)))))))))
def j6:FS :=
  (aF (aW 12 (fA df (fV 0 (af (f2 ca (fI 5) (ai 7)) aj))))
  (aF (aW 13 (f2 g7 (f2 ca (f2 cR (ai 7) (fI 2)) (f2 bO (f2 cR (ai 12) (fI 7)) (fI 3))) (ai 2)))
  (aF (aW 14 (fA rC (af (fA gd (fV 5 aj)) (af (fA df (fV 0 (af (f2 ca (fI 30) (ai 7)) aj))) (af (fA df (fV 0 (af (f2 ca (fI 60) (ai 7)) aj))) (fV 1 (fV 13 (fV 6 (fV 2 aj)))))))))
  (aF (eZ (bw (f2 ph (dE 14 0) (fA be (af (fS "leave") (af (fS "named") aj))))) (km 6 (dE 14 3)) bx)
  (aF (eZ (bw (f2 eV (dE 14 0) (fS "chosen"))) (km 6 (dE 14 4)) bx)
  (km 5 (fA be (af (f2 ca (ai 13) (f2 g7 (f2 bD (fA bI (af (fI 0) (af (fI 0) (af (fI 0) (af (fI 0) (af (fI 1) (af (fI 4) aj))))))) (f2 bO (f2 cR (ai 12) (fI 21)) (fI 6))) (ai 2))) (fV 14 aj)))))))))
def yR:FS :=
  (aF (aW 4 (fA df (fV 0 (af (fI 1) aj))))
  (aF (aW 5 (fA bI aj))
  (aF (aW 6 (fA bI aj))
  (aF (ot (gK (f2 ca (fI 1) (f2 bO (ai 4) (fI 2)))) (dj 7) j5)
  (aF (ot (gK (f2 ca (fI 3) (f2 bO (fA df (fV 0 (af (fI 2) aj))) (ai 3)))) (dj 7) j6)
  (ba (fA g9 (fV 5 aj))))))))
def rE:=aS yR 4 11
def BL:FS :=
  (ba (fA dY (fV 0 (fV 1 (af (fA kG (fV 0 (fV 1 aj))) (fV 2 aj))))))
def pJ:=aS BL 3 0
def BM:FS :=
  (ba (fA jO (fV 0 (fV 1 (af (fA kG (fV 0 (fV 1 aj))) (fV 2 (fV 3 aj)))))))
def wN:=aS BM 4 0
def yS:FS :=
  (aF (eZ (jm (bw (f2 CP (f2 bD (f2 bD (f2 bD (ai 0) (ai 3)) (fI 1)) (fI 1)) (ai 2))) (eX (bw (fA dU (fV 0 (fV 1 (fV 3 aj))))))) (ba (fC (.bl false))) bx)
  (ba (f2 eV (fA wN (fV 0 (fV 1 (fV 3 (fV 2 aj))))) (fA bI aj))))
def rF:=aS yS 4 0
def Pg:FS:=aW 1 (fA nO (af (fA df (fV 0 (af (fI 0) aj))) aj))
def Ph:FS:=aW 2 (f2 bD (fA bI (af (fI 1) (af (fI 1) (af (fI 500) aj)))) (f2 bO (fA df (fV 0 (af (fI 3) aj))) (fI 3)))
def Pj:FS:=aW 3 (fA rE (fV 0 (fV 1 (fV 2 (af (fI 8) aj)))))
def Pk:FS:=aW 4 (f2 bD (fA bI (af (fI 9999) (af (f2 g7 (f2 bO (f2 cR (fA df (fV 0 (af (fI 3) aj))) (fI 3)) (fI 13)) (ai 2)) aj))) (f2 cR (f2 bO (fA df (fV 0 (af (fI 4) aj))) (fI 3)) (fI 2)))
def Pl:FS:=aW 5 (f2 bD (fA bI (af (fI 9999) (af (f2 g7 (f2 bO (f2 cR (fA df (fV 0 (af (fI 90) aj))) (fI 2)) (fI 9)) (ai 2)) aj))) (f2 bO (fA df (fV 0 (af (fI 90) aj))) (fI 2)))
def Pm:FS:=aW 6 (fA lY (fV 3 (fV 4 (fV 5 aj))))
def Pn:FS:=aW 7 (bN (gK (fA gd (fV 3 aj))) 1 [4,3] (dj 0) (fF (bw (f2 z9 (f2 bD (f2 bD (ai 2) (ai 0)) (fI 0)) (ai 1))) (bw (f2 ph (f2 bD (f2 bD (f2 bD (ai 2) (ai 0)) (fI 1)) (fI 0)) (fA be (af (fS "leave") (af (fS "paper") (af (fS "like") (af (fS "copy") aj)))))))) (ai 0))
def Po:FS:=aW 8 (bN (cn (ai 7)) 1 [3,4,5] (dj 0) (bw (fA rF (fV 1 (fV 2 (fV 3 (fV 0 aj)))))) (ai 0))
noncomputable def yT:List FS->DL.Env->Option DL.Env
 |[],ρ=>some ρ
 |g::gs,ρ=>match g ρ with
  |some (.nx M)=>yT gs M
  |_=>none
def Sl:FT:=bw (fA zV (af (bN (cn (Bh (ai 0) (iL (fI 1)) jp)) 1 [1] (dj 0) fM (f2 ph (ai 0) (ai 1))) aj))
def Uw:FT:=bw (f2 zT (f2 ph (ai 10) (ai 6)) (f2 CP (fA gd (fV 12 aj)) (fI 0)))
def Ux:FT:=bw (f2 zT (fA jQ (fV 3 (fV 4 (fV 5 (fV 13 aj))))) (f2 QK (ai 13) (ai 12)))
def Uy:FE:=fA zV (af (bN (cn (ai 6)) 1 [7] (dj 0) fM (f2 ph (ai 0) (ai 1))) aj)
def Uz:FE:=Bh (ai 11) jp (iL (fI 8))
theorem Sm {n:Nat}(h:n<=200000):n<sizeLine:=lt_of_le_of_lt h (by decide)
theorem N7 {n:Nat}(h:n<=200000):n<=sizeLine:=le_of_lt (Sm h)
structure T2 (d:D)(p:Bool×Int):Prop where
 kd:∃z:Str,bD d (.int 0)=some (.str z,false)/\decide (z = "office")=p.1
 nm:bD d (.int (-1))=some (.int p.2,false)
noncomputable def tp (W:Int->List LI)(n:Nat)(p:Bool×Int):List LI:=if p.1=true then [[p.2,(n:Int)]]else (W p.2).map (· ++ [(n:Int)])
structure WOk (ab:List D)(aa:Int)(W:Int->List (List Int))(rk:Int->Nat)(n:Nat):Prop where
 ex:∃(bs:List (D×Bool×Int))(b:Bool),pJ [.tup ab,.int aa,.int n]=some (.lst (bs.map (·.1)),b)/\(∀x∈bs,T2 x.1 x.2)/\(∀x∈bs,x.2.1=false->∃m:Nat,x.2.2=(m:Int)/\m<100/\rk m<rk n/\(W m).length<=200000/\∀l∈W m,l.length<=1000)/\W n=bs.flatMap (λx=>tp W n x.2)
 len:(W n).length<=200000
noncomputable abbrev E8 (ab:LD)(aa day:Int)(st bo fr:LD):DL.Env:=[none,none,none,some (.tup ab,false),some (.int aa,false),some (.int day,false),some (.lst st,false),some (.lst bo,false),some (.lst fr,false),none,none,none,none,none]
abbrev Mz (ab:LD)(aa day:Int)(st bo fr:LD)(a:Nat)(M gs:List LI)(x:OB):DL.Env:=[none,none,none,some (.tup ab,false),some (.int aa,false),some (.int day,false),some (.lst st,false),some (.lst bo,false),some (.lst fr,false),none,some (.int a,false),some (oD M,false),some (oD gs,false),x]
structure Cnd (ab:List D)(aa day:Int)(st:List D)(bo:List Nat)(fr:List D)(W G:Int->List (List Int))(rk:Int->Nat):Prop where
 ways:∀n:Nat,n<100->rk n<100->WOk ab aa W rk n
 dom:∀a∈bo,a<100/\rk a<20
 good:∀a∈bo,fg (dj 0) Sl (ai 0) (dn 1 [8] (E8 ab aa day st (bo.map λ(n:Nat)=>.int n) fr)) ((W a).map cG)=some ((G a).map cG)/\(W a).length<=200000
 test:∀a∈bo,Uw (Mz ab aa day st (bo.map λ(n:Nat)=>.int n) fr a (W a) (G a) none)=some false
 slc:∀a∈bo,∃b,Uz (Mz ab aa day st (bo.map λ(n:Nat)=>.int n) fr a (W a) (G a) none)=some (.lst (((W a).take 8).map cG),b)
 chn:∀a∈bo,∀l∈(W a).take 8,Ux (Mz ab aa day st (bo.map λ(n:Nat)=>.int n) fr a (W a) (G a) (some (cG l,false)))=some false
 fin:∃b,Uy (E8 ab aa day st (bo.map λ(n:Nat)=>.int n) fr)=some (.bl true,b)
def Sn (ρ:DL.Env):Prop:=∃M O T ab aa day st bo fr W G rk U a b,ρ=[M,O,T,some (.tup ab,false),some (.int aa,false),some (.int day,false),some (.lst st,U),some (.lst (bo.map λ(n:Nat)=>.int n),a),some (.lst fr,b),none,none,none,none,none]/\Cnd ab aa day st bo fr W G rk
open Classical in
noncomputable def F_law:LD->OB
 |[d]=>match yT [Pg,Ph,Pj,Pk,Pl,Pm,Pn,Po] [some (d,false),none,none,none,none,none,none,none,none,none,none,none,none,none] with
  |some ρ=>if Sn ρ then some (.bl true,false)else none
  |none=>none
 |_=>none
end Lw
namespace DL
open PySem L2
theorem jR:∀(n m:Nat)(d:D),n<=m->aQ n d=true->aQ m d=true
 |n,m,.non,_,_=>by simp
 |n,m,.bl _,_,_=>by simp
 |n,m,.int _,_,_=>by simp
 |n,m,.str _,_,_=>by simp
 |n,m,.ty _,_,h=>by cases n<;>simp[aQ]at h
 |n,m,.dk _ _,_,h=>by simp at h
 |n,m,.dt _ _,_,h=>by simp at h
 |0,m,.tup _,_,h=>by simp[aQ]at h
 |0,m,.lst _,_,h=>by simp[aQ]at h
 |n+1,0,_,h,_=>by lia
 |n+1,m+1,.tup ds,hl,h=>by
  simp only[aQ,all_eq_true]at h |-;exact λd hd=>jR n m d (by lia) (h d hd)
 |n+1,m+1,.lst ds,hl,h=>by
  simp only[aQ,all_eq_true]at h |-;exact λd hd=>jR n m d (by lia) (h d hd)
theorem nQ:∀(ds:LD),(∀d∈ds,cJ d d=true)->fJ ds ds=true
 |[],_=>by simp only[fJ]
 |d::ds,h=>by
  simp only[fJ,h d mX,Bool.true_and];exact nQ ds λe he=>h e (mZ _ he)
theorem rG:∀(n:Nat)(d:D),aQ n d=true->cJ d d=true
 |n,.non,_=>by simp
 |n,.bl _,_=>by simp
 |n,.int _,_=>by simp
 |n,.str _,_=>by simp
 |n,.ty _,h=>by cases n<;>simp[aQ]at h
 |n,.dk _ _,h=>by simp at h
 |n,.dt _ _,h=>by simp at h
 |0,.tup _,h=>by simp[aQ]at h
 |0,.lst _,h=>by simp[aQ]at h
 |n+1,.tup ds,h=>by
  simp only[aQ,all_eq_true]at h;simp only[cJ];exact nQ ds λd hd=>rG n d (h d hd)
 |n+1,.lst ds,h=>by
  simp only[aQ,all_eq_true]at h;simp only[cJ];exact nQ ds λd hd=>rG n d (h d hd)
end DL
namespace DL
@[simp] noncomputable abbrev sF (d:D):OB:=some (d,false)
@[simp] noncomputable abbrev lT (ds:LD):OB:=some (.lst ds,true)
@[simp] noncomputable abbrev sI (x:Int):OB:=some (.int x,false)
@[simp] noncomputable abbrev sS (x:PySem.Str):OB:=some (.str x,false)
@[simp] noncomputable abbrev sT (x:LD):OB:=some (.tup x,false)
@[simp] noncomputable abbrev sL (x:LD):OB:=some (.lst x,false)
@[simp] noncomputable abbrev sO (x:Bool):OB:=some (.bl x,false)
theorem dq {r:OB}{d:D}{b:Bool}(h:Sf r d b=true:=by decide +kernel):r=some (d,b):=Mu h
theorem cV {p q:Prop}[Decidable p](h:p)(n:decide p=false:=by decide +kernel):q:=absurd h (of_decide_eq_false n)
end DL
namespace Lw
open PySem DL L2
theorem D0 (d:D)(r:LD):oq (d::r) 0=some d:=by have:=k9 (xs:=d::r) (j:=0) (by simp);simpa using this
theorem BN (d e:D)(r:LD):oq (d::e::r) 1=some e:=by have:=k9 (xs:=d::e::r) (j:=1) (by simp);simpa using this
theorem U0 (d e f:D)(r:LD):oq (d::e::f::r) 2=some f:=by have:=k9 (xs:=d::e::f::r) (j:=2) (by simp);simpa using this
noncomputable def cZ (k:Str):Bool:=decide (k = "death") || decide (k = "lost") || decide (k = "found")
noncomputable def dZ (k:Str):Bool:=decide (k = "chosen") || decide (k = "heir") || decide (k = "leave") || decide (k = "paper") || decide (k = "like") || decide (k = "copy") || decide (k = "call")
structure DeedP (kind:Str)(aH:List D):Prop where
 flat:bE aH=true
 plain:aH.all (aQ 5)=true
 three:cZ kind=true->∃(day:Int)(p:Str),aH=[.int day,.str p]
 slg:dZ kind=true->∃(day:Int)(p:Str)(r:List D),aH=.int day::.str p::r
noncomputable def row (h:Int)(kind:Str)(aH:LD):D:=.tup [.int h,.tup (.str kind::aH)]
def nR (r:D):Prop:=∃h kind aH,r=row h kind aH/\DeedP kind aH
theorem nR.flat (h:nR r):bB r=true:=by obtain⟨a,k,aH,rfl,dp⟩:=h;simp[row,dp.flat]
theorem nR.plain (h:nR r):aQ 39 r=true:=by
 obtain⟨a,k,aH,rfl,dp⟩:=h;refine jR 7 39 _ (by decide) ?_;have:=dp.plain;simp only[row,aQ,all_cons,all_nil,Bool.and_true,Bool.true_and];exact this
theorem bZ (h:∀d∈ds,bB d=true):bE ds=true:=by
 induction ds with
 |nil=>rfl
 |cons d r M=>simp[h d (by simp),M λe he=>h e (by simp[he])]
theorem eA (zs:LS):bE (zs.map D.str)=true:=by
 induction zs with
 |nil=>rfl
 |cons a l M=>simp[M]
noncomputable def aU:D->Int
 |.tup (.int h::_)=>h
 |_=>0
noncomputable def kindOf:D->Str
 |.tup [_,.tup (.str k::_)]=>k
 |_=>("" : Str)
noncomputable def aG:D->Int
 |.tup [_,.tup (_::.int d::_)]=>d
 |_=>0
noncomputable def u0 (p:Str)(day:Int):LD->Bool
 |[.int d,.str q]=>decide (q=p) && decide (d<=day)
 |_=>false
def told (M:LS)(p:Str)(day:Int):D->Bool
 |.tup [_,.tup (.str kind::aH)]=>decide (kind∈M) && u0 p day aH
 |_=>false
theorem iU (h:Int)(kind:Str)(aH:LD):aO [row h kind aH]=sS kind:=av rfl (ax (by simp[row,BN,D0]))
theorem kJ (h:cZ k=true):k = "death" \/ k = "lost" \/ k = "found":=by
 unfold cZ at h;simp only[or_eq_true,decide_eq_true_eq]at h;rcases h with (h|h)|h
 ·exact .inl h
 ·exact .inr (.inl h)
 ·exact .inr (.inr h)
theorem ma (h:dZ k=true):k = "chosen" \/ k = "heir" \/ k = "leave" \/ k = "paper" \/ k = "like" \/ k = "copy" \/ k = "call":=by
 unfold dZ at h;simp only[or_eq_true,decide_eq_true_eq]at h;rcases h with (((((h|h)|h)|h)|h)|h)|h
 ·exact .inl h
 ·exact .inr (.inl h)
 ·exact .inr (.inr (.inl h))
 ·exact .inr (.inr (.inr (.inl h)))
 ·exact .inr (.inr (.inr (.inr (.inl h))))
 ·exact .inr (.inr (.inr (.inr (.inr (.inl h)))))
 ·exact .inr (.inr (.inr (.inr (.inr (.inr h)))))
theorem Ja (h:cZ k=true\/dZ k=true):pq gS (.str k) (.str "day")=sI 0:=by
 rcases h with h|h
 ·rcases kJ h with rfl|rfl|rfl<;>exact dq
 ·rcases ma h with rfl|rfl|rfl|rfl|rfl|rfl|rfl<;>exact dq
theorem Aw (h:cZ k=true):pq gS (.str k) (.str "person")=sI 1:=by
 rcases kJ h with rfl|rfl|rfl<;>exact dq
theorem FV (h:cZ k=true\/dZ k=true):eV (.str k) (.str "root")=sO false:=by
 rcases h with h|h
 ·rcases kJ h with rfl|rfl|rfl<;>exact dq
 ·rcases ma h with rfl|rfl|rfl|rfl|rfl|rfl|rfl<;>exact dq
theorem bz {h:Int}{k:Str}{aH:LD}{part:Str}{i:Nat}{d:D}(hi:pq gS (.str k) (.str part)=sI i)(hd:aH[i]? = some d):aq [row h k aH,.str part]=some (d,false):=by
 refine av rfl (ax ?_);refine bC (.tup (.str k::aH)) (.int (1+i)) (by simp[row,BN]) (bC (.int 1) (.int i) rfl (bC (.str k) (.str part) (aN [row h k aH] rfl (iU _ _ _)) rfl hi) (by simp)) ?_;have M:i<aH.length:=(vV hd).1;have:oq (.str k::aH) (1+(i:Int))=some d:=by
  have:=k9 (xs:=(.str k:D)::aH) (j:=i+1) (by simp;lia);rw[show(1+(i:Int))=((i+1:Nat):Int) by lia,this];simp only[List.getElem_cons_succ];rw[vU M]at hd;exact hd
 simp[this]
theorem j7 {h:Int}{k:Str}{aH:LD}{d:Int}{r:LD}(hk:cZ k=true\/dZ k=true)(hr:aH=.int d::r):aV [row h k aH]=sI d:=by
 subst hr;refine av rfl (aE (cY (bC (.str k) (.str "root") (aN [row h k (.int d::r)] rfl (iU _ _ _)) rfl (FV hk))) (ax (aN [row h k (.int d::r),.str "day"] rfl (bz (i:=0) (Ja hk) rfl))))
theorem rH (k:Str)(M:LS):DY (.str k) (M.map .str)=decide (k∈M):=by
 induction M with
 |nil=>simp[DY]
 |cons w M O=>
  have:DY (.str k) ((w::M).map .str)=(cJ (.str w) (.str k) || DY (.str k) (M.map .str)):=rfl;rw[this,O,xQ];by_cases e:w=k
  ·simp[e]
  ·have T:¬k=w:=λz=>e z.symm;simp[e,T]
theorem nS (M:LS):(M.map D.str).all fW=true:=by
 induction M with
 |nil=>rfl
 |cons w M O=>simp[fW]
theorem iu (k:Str)(M:LS):ph (.str k) (.tup (M.map .str))=sO (decide (k∈M)):=by
 simp only[ph,jq,vJ,rH];rw[if_pos ⟨rfl,nS M⟩]
theorem FW (hr:nR r)(M:LS)(hw:∀w∈M,cZ w=true)(p:Str)(day:Int):pG [r,.tup (M.map .str),.str p,.int day]=sO (told M p day r):=by
 obtain⟨h,kind,aH,rfl,dp⟩:=hr;have O:f2 ph (fA aO (fV 0 aj)) (ai 1) [some (row h kind aH,false),sT (M.map .str),sS p,sI day]=sO (decide (kind∈M)) :=
  bC (.str kind) (.tup (M.map .str)) (aN [row h kind aH] rfl (iU _ _ _)) rfl (iu kind M)
 have T:told M p day (row h kind aH)=(decide (kind∈M) && u0 p day aH):=rfl;rw[T];refine av rfl (ax (dQ (b1:=false) O λhk=>?_));have h3:=hw kind (DQ hk);obtain⟨d,q,rfl⟩:=dp.three h3;show lz _ _ _=sO (decide (q=p) && decide (d<=day));refine dQ (b1:=false) ?_ λ_=>?_
 ·exact bC (.str q) (.str p) (aN [row h kind [.int d,.str q],.str "person"] rfl (bz (i:=1) (Aw h3) rfl)) rfl (by simp)
 ·exact bC (.int d) (.int day) (aN [row h kind [.int d,.str q]] rfl (j7 (.inl h3) rfl)) rfl (by simp)
theorem FX (ds:LD):tS ds=ds.zipIdx.map λx=>.tup [.int x.2,x.1]:=by
 unfold tS;apply ext_getElem?;intro i;simp[List.getElem?_mapIdx,List.getElem?_zipIdx];cases ds[i]?<;>simp
noncomputable def ak (ab:LD)(aa:Int):List (D×Nat):=ab.zipIdx.filter λx=>decide (aU x.1<=aa)
theorem kK (ab:LD)(hr:∀r∈ab,nR r)(hl:ab.length<=1000)(aa:Int):cK [.tup ab,.int aa]=lT ((ak ab aa).map λx=>.int x.2):=by
 have hc:=fX (fi:=EU (ai 0)) (nT:=2) (cap:=[1]) (tg:=Kp [0,1]) (c:=bw (f2 z9 (dE 1 0) (ai 2))) (fe:=ai 0) (ρ:=[sT ab,sI aa]) ab.zipIdx (λx=>.tup [.int x.2,x.1]) (λx=>decide (aU x.1<=aa)) (λx=>.int x.2)
  (by simp[FX]) (by simp;lia) λx hx=>by
   obtain⟨h,kind,aH,e,_⟩:=hr x.1 (List.fst_mem_of_mem_zipIdx hx);refine⟨_,rfl,cY ?_,λ_=>⟨false,by simp[dn]⟩⟩;simp[dn,e,row,D0,aU]
 exact av rfl (ax hc)
def pw (ab:LD)(aa:Int)(M:LS)(p:Str)(day:Int):List (D×Nat):=(ak ab aa).filter λx=>told M p day x.1
theorem BO (h:x∈pw ab aa M p day):ab[x.2]? = some x.1/\told M p day x.1=true:=by
 obtain⟨h1,h2⟩:=vN h;exact⟨(List.mk_mem_zipIdx_iff_getElem? (x:=x.1) (i:=x.2)).mp (vN h1).1,h2⟩
theorem cD {ab:LD}{i:Nat}{r:D}(h:ab[i]? = some r):oq ab (i:Int)=some r:=by
 obtain⟨M,e⟩:=vV h;rw[k9 M,e]
theorem Jb (ab:LD)(aa:Int)(M:LS)(p:Str)(day:Int):(pw ab aa M p day).length<=ab.length:=by
 have h1:=vM (λx:D×Nat=>told M p day x.1) (ak ab aa);have h2:=vM (λx:D×Nat=>decide (aU x.1<=aa)) ab.zipIdx;rw[length_zipIdx]at h2;exact vR h1 h2
theorem wO (ab:LD)(hr:∀r∈ab,nR r)(hl:ab.length<=1000)(aa:Int)(M:LS)(hw:∀w∈M,cZ w=true)(p:Str)(day:Int):
  gX [.tup ab,.int aa,.tup (M.map .str),.str p,.int day]=lT ((pw ab aa M p day).map λx=>.int x.2):=by
 have hc:=fX (fi:=cn (fA cK (fV 0 (fV 1 aj)))) (nT:=1) (cap:=[2,3,4,0]) (tg:=dj 0) (c:=bw (fA pG (af (f2 bD (ai 4) (ai 0)) (fV 1 (fV 2 (fV 3 aj)))))) (fe:=ai 0)
  (ρ:=[sT ab,sI aa,sT (M.map .str),sS p,sI day]) (ak ab aa) (λx=>.int x.2) (λx=>told M p day x.1) (λx=>.int x.2)
  (by
   show(fA cK (fV 0 (fV 1 aj)) _).bind _=_;rw[aN [.tup ab,.int aa] rfl (kK ab hr hl aa)];rfl) (by have:=vM (λx:D×Nat=>decide (aU x.1<=aa)) ab.zipIdx;rw[length_zipIdx]at this;exact vR this (by lia)) λx hx=>by
   have O:ab[x.2]? = some x.1:=(List.mk_mem_zipIdx_iff_getElem? (x:=x.1) (i:=x.2)).mp (vN hx).1;refine⟨_,rfl,cY (aN [x.1,.tup (M.map .str),.str p,.int day] ?_ (FW (hr _ (vL O)) M hw p day)),λ_=>⟨false,by simp[dn]⟩⟩;have ha:=cD O;simp[dn,ha]
 exact av rfl (ax hc)
def kA (x:D×Nat):List At:=[.i (aG x.1),.i x.2]
def bQ (a b:D×Nat):Bool:=decide (aG a.1<aG b.1\/(aG a.1=aG b.1/\(a.2:Int)<b.2))
def gM:D×Nat->List (D×Nat)->D×Nat
 |b,[]=>b
 |b,x::r=>if bQ b x=true then gM x r else gM b r
def Ky:List (D×Nat)->Option (D×Nat)
 |[]=>none
 |x::r=>some (gM x r)
theorem M0 (a b c d:Int):bq [.i a,.i b] [.i c,.i d]=some (decide (a<c\/(a=c/\b<d))):=by
 rw[bq];by_cases h:a=c
 ·rw[if_pos h,bq];by_cases h2:b=d
  ·rw[if_pos h2,bq];simp[h,h2]
  ·rw[if_neg h2];simp[h]
 ·rw[if_neg h];simp[h]
theorem wP (a b:D×Nat):bq (kA a) (kA b)=some (bQ a b):=M0 _ _ _ _
theorem wQ (l:List (D×Nat)):eK (l.map kA)=true:=by
 unfold eK;simp[all_eq_true,wP]
theorem nU:∀(r:List (D×Nat))(b:D×Nat),m8 (kA b,.int b.2) (r.map λx=>(kA x,D.int x.2))=.int (gM b r).2
 |[],b=>rfl
 |x::r,b=>by
  rw[uY,m8,gM];show(if bq (kA b) (kA x)=some true then _ else _)=_;rw[wP];by_cases h:bQ b x=true
  ·rw[if_pos h,if_pos (by rw[h])];exact nU r x
  ·rw[if_neg h,if_neg (by simpa using h)];exact nU r b
theorem rJ:∀(r:List (D×Nat))(b:D×Nat),gM b r∈b::r
 |[],b=>by simp[gM]
 |x::r,b=>by
  rw[gM];split
  ·exact mZ _ (rJ r x)
  ·rcases vP (rJ r b)with h|h
   ·rw[h];exact mX
   ·exact mZ _ (mZ _ h)
theorem iz {α:Type}{f:D->Option D}{g h:α->D}:∀(l:List α),(∀x∈l,f (g x)=some (h x))->ju f (l.map g)=some (l.map h)
 |[],_=>rfl
 |x::l,hx=>by
  rw[uY,ju,hx x mX,vJ,iz l λy hy=>hx y (mZ _ hy)];rfl
theorem gY {α:Type}{g:α->D}{h:α->List At}:∀(l:List α),(∀x∈l,yz (g x)=some (h x))->dJ (l.map g)=some (l.map h)
 |[],_=>rfl
 |x::l,hx=>by
  rw[uY,dJ,hx x mX,vJ,gY l λy hy=>hx y (mZ _ hy)];rfl
noncomputable def mK:LS:=[("lost" : Str),"found"]
theorem oR:∀w∈mK,cZ w=true:=by
 intro w hw;rcases vP hw with rfl|hw
 ·decide +kernel
 ·rcases vP hw with rfl|hw
  ·decide +kernel
  ·cases hw
def yU (ab:LD)(aa:Int)(p:Str)(day:Int):Bool:=match Ky (pw ab aa mK p day) with
 |none=>true
 |some b=>decide (kindOf b.1 = "found")
theorem rK (hw:∀w∈T,cZ w=true)(hr:nR r)(O:told T p day r=true):∃h k d,r=row h k [.int d,.str p]/\cZ k=true/\k∈T/\d<=day:=by
 obtain⟨h,kind,aH,rfl,dp⟩:=hr;have M:(decide (kind∈T) && u0 p day aH)=true:=O;rw[vC]at M;have hm:=DQ M.1;obtain⟨d,q,rfl⟩:=dp.three (hw _ hm);have hq:(decide (q=p) && decide (d<=day))=true:=M.2;rw[vC]at hq;have:=DQ hq.1;subst this;exact⟨h,kind,d,rfl,hw _ hm,hm,DQ hq.2⟩
theorem BP {ab:LD}{i:Nat}{h d:Int}{k p:Str}(M:ab[i]? = some (row h k [.int d,.str p]))(h3:cZ k=true):fD [.tup ab,.int i]=sT [.int d,.int i]:=by
 have ha:=cD M;refine av rfl (ax (aN [.int d,.int i] (aI (d:=.int d) (b:=false) (aN [row h k [.int d,.str p]] (by simp[ha]) (j7 (.inl h3) rfl)) rfl) (by simp[sizeLine])))
theorem Jc (ab:LD)(hr:∀r∈ab,nR r)(hl:ab.length<=1000)(aa:Int)(p:Str)(day:Int):lV [.tup ab,.int aa,.str p,.int day]=sO (yU ab aa p day):=by
 have a:=wO ab hr hl aa mK oR p day;have f:=Jb ab aa mK p day;have O:∀x∈pw ab aa mK p day,∃h k d,ab[x.2]? = some (row h k [.int d,.str p])/\x.1=row h k [.int d,.str p]/\cZ k=true:=λx hx=>by
  obtain⟨T,g⟩:=BO hx;obtain⟨h,k,d,e,h3,_⟩:=rK oR (hr _ (vL T)) g;exact⟨h,k,d,by rw[T,e],e,h3⟩
 unfold yU;generalize c:pw ab aa mK p day=sel at a O f |-;have M:fA gX (fV 0 (fV 1 (af (fA be (af (fS "lost") (af (fS "found") aj))) (fV 2 (fV 3 aj))))) [sT ab,sI aa,sS p,sI day,none]=lT (sel.map λx=>.int x.2) :=
  aN [.tup ab,.int aa,.tup (mK.map .str),.str p,.int day] (by simp[mK,sizeLine]) a
 have U:bE (sel.map λx=>D.int x.2)=true:=bZ λd hd=>by obtain⟨x,_,rfl⟩:=vO hd;rfl
 cases sel with
 |nil=>exact av rfl (de M U (bA (cY (by simp)) (ax rfl)))
 |cons x r=>
  refine av rfl (de M U (aE (cY (by simp;lia)) (ax ?_)));obtain⟨h,k,d,T,e,h3⟩:=O (gM x r) (rJ r x);have hb:kindOf (gM x r).1=k:=by rw[e];rfl
  show _=some (D.bl (decide (kindOf (gM x r).1 = "found")),false);rw[hb];refine bC (.str k) (.str "found") (aN [row h k [.int d,.str p]] (aI (d:=row h k [.int d,.str p]) (b:=false) (bC (.tup ab) (.int (gM x r).2) rfl ?_ (by simp[cD T])) rfl) (iU _ _ _)) rfl (by simp);have hm:∀ρ:DL.Env,ρ[0]? = some (sT ab)->ju (qz [0] (fA fD (fV 1 (fV 0 aj))) ρ) ((x::r).map λx=>D.int x.2)=some ((x::r).map λx=>.tup [.int (aG x.1),.int x.2]):=λρ h0=>
   iz (x::r) λy hy=>by
    obtain⟨h,k,d,T,e,h3⟩:=O y hy;have hd:aG y.1=d:=by rw[e];rfl
    rw[hd];show(fA fD _ _).map _=_;rw[aN [.tup ab,.int y.2] (by simp[dn,h0]) (BP T h3)];rfl
  have hk:dJ ((x::r).map λx=>D.tup [.int (aG x.1),.int x.2])=some ((x::r).map kA):=gY (x::r) λy _=>rfl;have hz:((x::r).map kA).zip ((x::r).map λx=>D.int x.2)=(kA x,.int x.2)::r.map λx=>(kA x,D.int x.2):=by
   rw[zip_map'];rfl
  show(uh (ai 4) _ _)=_;unfold uh Ml;show((some (D.lst ((x::r).map λx=>D.int x.2),false)).bind _)=_;simp only[vJ];rw[hm _ rfl];simp only[vJ];rw[hk];simp only[vJ];rw[if_pos (wQ _),hz];simp only[nU]
noncomputable def eC:LS:=[("death" : Str)]
theorem jS:∀w∈eC,cZ w=true:=by
 intro w hw;rcases vP hw with rfl|hw
 ·decide +kernel
 ·cases hw
def nV (ab:LD)(aa:Int)(p:Str)(day:Int):Bool:=(pw ab aa eC p day).isEmpty
theorem yV (ab:LD)(hr:∀r∈ab,nR r)(hl:ab.length<=1000)(aa:Int)(p:Str)(day:Int):mD [.tup ab,.int aa,.str p,.int day]=sO (nV ab aa p day):=by
 have M:=wO ab hr hl aa eC jS p day;unfold nV;generalize pw ab aa eC p day=O at M |-;refine av rfl (ax (bC (.int ((O.map λx=>D.int x.2).length:Nat)) (.int 0) ?_ rfl ?_))
 ·exact aN [.lst (O.map λx=>.int x.2)] (aI (d:=.lst (O.map λx=>.int x.2)) (b:=true) (aN [.tup ab,.int aa,.tup (eC.map .str),.str p,.int day] (by simp[sizeLine,eC]) M) rfl) IZ
 ·rw[BB];cases O<;>simp
  lia
noncomputable def cW:D->Str
 |.tup [_,.tup (_::_::.str p::_)]=>p
 |_=>("" : Str)
noncomputable def yW:LS:=[("chosen" : Str),"heir","leave","paper","like","copy","call"]
theorem rL (k:Str):dZ k=decide (k∈yW):=by
 unfold dZ yW;simp[mem_cons,Bool.or_assoc]
theorem Ax:ij=.tup (yW.map .str):=rfl
theorem oS (k:Str)(M:LS):hW (.str k) (.tup (M.map .str))=sO (!decide (k∈M)):=by
 simp only[hW,jq,vJ,rH];rw[if_pos ⟨rfl,nS M⟩]
theorem FY (h:dZ k=true):pq gS (.str k) (.str "by")=sI 1:=by
 rcases ma h with rfl|rfl|rfl|rfl|rfl|rfl|rfl<;>exact dq
def gN (ab:LD)(aa:Int)(r:D):Bool:=(decide (aU r<=aa) && dZ (kindOf r)) && (nV ab aa (cW r) (aG r) && yU ab aa (cW r) (aG r))
theorem kL {ab:LD}{i:Nat}{h:Int}{kind:Str}{aH:LD}(M:ab[i]? = some (row h kind aH))(aa:Int):cH [.tup ab,.int aa,.int i]=sO (decide (h<=aa)):=by
 have O:i<ab.length:=(vV M).1;have ha:=cD M;refine av rfl (ax ?_);have:=dQ (f1:=nz z9 Km (fI 0) (ai 2) (fA gd (fV 0 aj))) (f2:=f2 z9 (f2 bD (f2 bD (ai 0) (ai 2)) (fI 0)) (ai 1)) (ρ:=[sT ab,sI aa,sI i]) (p:=true) (q:=decide (h<=aa)) (b1:=false)
  (by
   refine(yG (x:=.int 0) (y:=.int i) (z:=.int ab.length) (b1:=false) (b2:=false) (b3:=false) (b4:=false) (p:=true) (q:=true) rfl rfl (by simp) (by simp) λ_=>?_).trans rfl;simp;lia) λ_=>by simp[ha,row,D0]
 exact this
theorem mL (ab:LD)(hr:∀r∈ab,nR r)(hl:ab.length<=1000)(aa:Int){i:Nat}{r:D}(T:ab[i]? = some r):dU [.tup ab,.int aa,.int i]=sO (gN ab aa r):=by
 obtain⟨h,kind,aH,rfl,dp⟩:=hr r (vL T);have hk:=kL T aa;have ha:=cD T;have O:∀(ρ:DL.Env),f2 bD (ai 0) (ai 2) ρ=some (row h kind aH,false)->fA aO (af (f2 bD (ai 0) (ai 2)) aj) ρ=sS kind:=λρ e=>aN [row h kind aH] (aI e rfl) (iU _ _ _);have M:f2 bD (ai 0) (ai 2) [sT ab,sI aa,sI i,none,none]=some (row h kind aH,false):=by simp[ha]
 have hc:(jm (eX (bw (fA cH (fV 0 (fV 1 (fV 2 aj)))))) (bw (f2 hW (fA aO (af (f2 bD (ai 0) (ai 2)) aj)) (fC ij)))) [sT ab,sI aa,sI i,none,none]=some (!decide (h<=aa) || !dZ kind):=by
  refine cC (bX (cY (aN [.tup ab,.int aa,.int i] rfl hk))) λ_=>cY (bC (.str kind) ij (O _ M) rfl ?_);rw[Ax,rL];exact oS kind yW
 have hs:gN ab aa (row h kind aH)=((decide (h<=aa) && dZ kind) && (nV ab aa (cW (row h kind aH)) (aG (row h kind aH)) && yU ab aa (cW (row h kind aH)) (aG (row h kind aH)))):=rfl;cases hb:(decide (h<=aa) && dZ kind) with
 |false=>
  rw[hs,hb];refine av rfl (bA (hc.trans ?_) (ax rfl));rw[<-Bool.not_and,hb];rfl
 |true=>
  rw[hs,hb];rw[vC]at hb;obtain⟨day,p,U,rfl⟩:=dp.slg hb.2;show _=some (D.bl (true && (nV ab aa p day && yU ab aa p day)),false);rw[Bool.true_and];refine av rfl (aE (hc.trans (by rw[hb.1,hb.2];rfl)) (gL (.str p) (aN [row h kind (.int day::.str p::U),.str "by"] (aI M rfl) (bz (i:=1) (FY hb.2) rfl)) rfl (gL (.int day) (aN [row h kind (.int day::.str p::U)] (aI (d:=row h kind (.int day::.str p::U)) (b:=false) (by simp[ha]) rfl) (j7 (.inr hb.2) rfl)) rfl (ax ?_))));exact dQ (b1:=false) (aN [.tup ab,.int aa,.str p,.int day] (by simp) (yV ab hr hl aa p day)) λ_=>aN [.tup ab,.int aa,.str p,.int day] (by simp) (Jc ab hr hl aa p day)
inductive Cd:Str->List D->Prop
 |root (o r:Str) (m f:Int):Cd ("root" : Str) [.str o,.int m,.int f,.str r]
 |named (d:Int) (o p:Str):Cd ("named" : Str) [.int d,.str o,.str p]
 |chosen (d:Int) (b o p:Str) (s:Int):Cd ("chosen" : Str) [.int d,.str b,.str o,.str p,.int s]
 |heir (d:Int) (b o p:Str):Cd ("heir" : Str) [.int d,.str b,.str o,.str p]
 |three (k:Str) (hk:k = "death" \/ k = "lost" \/ k = "found") (d:Int) (p:Str):Cd k [.int d,.str p]
 |other (k:Str) (hk:k = "leave" \/ k = "paper" \/ k = "like" \/ k = "copy" \/ k = "call") (d:Int) (b:Str) (r:List D) (hf:bE r=true) (hp:r.all (aQ 5)=true):Cd k (.int d::.str b::r)
theorem Cd.deed (h:Cd k r):DeedP k r:=by
 cases h with
 |root o rl m f=>exact⟨rfl,by simp,λh=>cV h,λh=>cV h⟩
 |named d o p=>exact⟨rfl,by simp,λh=>cV h,λh=>cV h⟩
 |chosen d b o p s=>exact⟨rfl,by simp,λh=>cV h,λ_=>⟨d,b,_,rfl⟩⟩
 |heir d b o p=>exact⟨rfl,by simp,λh=>cV h,λ_=>⟨d,b,_,rfl⟩⟩
 |three k hk d p=>exact⟨rfl,by simp,λ_=>⟨d,p,rfl⟩,λh=>by rcases hk with rfl|rfl|rfl<;>exact cV h⟩
 |other k hk d b r hf hp=>exact⟨by simp[hf],by simp only[all_cons,hp,aQ,Bool.and_true],λh=>by rcases hk with rfl|rfl|rfl|rfl|rfl<;>exact cV h,λ_=>⟨d,b,r,rfl⟩⟩
def wR (r:D):Prop:=∃h k aH,r=row h k aH/\Cd k aH
theorem wR.rp (h:wR r):nR r:=by obtain⟨a,k,aH,rfl,d⟩:=h;exact⟨a,k,aH,rfl,d.deed⟩
def bi (r:D):Bool:=decide (kindOf r = "root")
theorem Cd.day (h:Cd k r)(hk:k ≠ "root"):∃d q,r=.int d::q:=by
 cases h with
 |root=>exact absurd rfl hk
 |named d=>exact⟨d,_,rfl⟩
 |chosen d=>exact⟨d,_,rfl⟩
 |heir d=>exact⟨d,_,rfl⟩
 |three _ _ d=>exact⟨d,_,rfl⟩
 |other _ _ d=>exact⟨d,_,rfl⟩
theorem Cd.day_idx (h:Cd k r)(hk:k ≠ "root"):pq gS (.str k) (.str "day")=sI 0:=by
 cases h with
 |root=>exact absurd rfl hk
 |named=>exact dq
 |chosen=>exact dq
 |heir=>exact dq
 |three _ hh=>rcases hh with rfl|rfl|rfl<;>exact dq
 |other _ hh=>rcases hh with rfl|rfl|rfl|rfl|rfl<;>exact dq
theorem bT (e:f ρ=some (.str a,bb))(h:decide (a=b)=x):bw (f2 eV f (fS b)) ρ=some x:=cY (fB (x:=.str a) (y:=.str b) (b1:=bb) (b2:=false) e rfl (by rw[<-h];simp))
def tq (r:D):D:=if bi r=true then .non else .int (aG r)
theorem je (g:wR r):aO [r]=sS (kindOf r):=by
 obtain⟨h,k,aH,rfl,_⟩:=g;exact iU h k aH
theorem rM (g:wR r):aV [r]=some (tq r,false):=by
 obtain⟨h,k,aH,rfl,d⟩:=g;unfold tq;by_cases hk:k = "root"
 ·have:bi (row h k aH)=true:=xq hk;rw[if_pos this];exact av rfl (bA (bT (a:=k) (bb:=false) (aN [row h k aH] rfl (iU _ _ _)) (xq hk)) (ax rfl))
 ·have:bi (row h k aH)=false:=DP hk;rw[if_neg (by rw[this];decide)];obtain⟨dd,q,rfl⟩:=d.day hk;exact av rfl (aE (bT (a:=k) (bb:=false) (aN [row h k (.int dd::q)] rfl (iU _ _ _)) (DP hk)) (ax (aN [row h k (.int dd::q),.str "day"] rfl (bz (i:=0) (d.day_idx hk) rfl))))
def gG (ab:LD):Prop:=ab.length<=60/\∀r∈ab,wR r
theorem gG.rp (g:gG ab):∀r∈ab,nR r:=λr hr=>(g.2 r hr).rp
theorem gG.le (g:gG ab):ab.length<=1000:=vR g.1 (by decide)
theorem br (h:x∈ak ab aa):ab[x.2]? = some x.1:=by
 obtain⟨h1,_⟩:=vN h;exact List.mem_zipIdx_iff_getElem?.mp h1
theorem cq (ab:LD)(aa:Int):(ak ab aa).length<=ab.length:=by
 have:=vM (λx:D×Nat=>decide (aU x.1<=aa)) ab.zipIdx;rw[length_zipIdx]at this;exact this
theorem dz (ab:LD)(aa:Int):((ak ab aa).map (·.2)).Nodup:=by
 have h1:(ab.zipIdx.map (·.2)).Nodup:=by rw[List.zipIdx_map_snd];exact List.nodup_range'
 exact List.Nodup.sublist (List.Sublist.map _ (filter_sublist)) h1
def dh (ab:LD)(aa:Int):List (D×Nat):=(ak ab aa).filter λx=>!bi x.1
def Pp (ab:LD)(aa:Int):List (D×Nat):=eJ (λx=>cM (kA x)) (dh ab aa)
theorem FZ (h:cM (kA a)=cM (kA b)):a.2=b.2:=by
 have h:[aG a.1,(a.2:Int)]=[aG b.1,(b.2:Int)]:=h;injection h with _ h;injection h with h;lia
theorem Jd (ha:a∈ak ab aa)(hb:b∈ak ab aa)(h:a.2=b.2):a=b:=by
 have h1:=br ha;have h2:=br hb;rw[h,h2]at h1;exact Prod.ext (vK h1).symm h
theorem oU (g:gG ab)(aa:Int):dS [.tup ab,.int aa]=lT ((Pp ab aa).map λx=>.int x.2):=by
 have hl:=g.1;have l:=cq ab aa;have O:∀x∈ak ab aa,oq ab (x.2:Int)=some x.1/\wR x.1:=λx hx=>⟨cD (br hx),g.2 _ (vL (br hx))⟩;have hc:=fX (fi:=cn (fA cK (fV 0 (fV 1 aj)))) (nT:=1) (cap:=[0]) (tg:=dj 0) (c:=bw (f2 lN (fA aV (af (f2 bD (ai 1) (ai 0)) aj)) (fC .non))) (fe:=ai 0) (ρ:=[sT ab,sI aa,none]) (ak ab aa) (λx=>.int x.2) (λx=>!bi x.1) (λx=>.int x.2)
  (by
   show(fA cK (fV 0 (fV 1 aj)) _).bind _=_;rw[aN [.tup ab,.int aa] rfl (kK ab g.rp g.le aa)];rfl) (by lia) λx hx=>by
   obtain⟨ha,U⟩:=O x hx;refine⟨_,rfl,cY (bC (tq x.1) .non (aN [x.1] (by simp[dn,ha]) (rM U)) rfl ?_),λ_=>⟨false,by simp[dn]⟩⟩;unfold tq;cases bi x.1<;>simp[CS]
 have i:bN (cn (fA cK (fV 0 (fV 1 aj)))) 1 [0] (dj 0) (bw (f2 lN (fA aV (af (f2 bD (ai 1) (ai 0)) aj)) (fC .non))) (ai 0) [sT ab,sI aa,none]=lT ((dh ab aa).map λx=>.int x.2):=hc;have j:bE ((dh ab aa).map λx=>D.int x.2)=true:=bZ λd hd=>by obtain⟨x,_,rfl⟩:=vO hd;rfl
 have m:(dh ab aa).length<=60:=vR (vM _ _) (by lia);have M:∀x∈dh ab aa,x∈ak ab aa/\bi x.1=false:=λx hx=>by
  obtain⟨h1,h2⟩:=vN hx;exact⟨h1,by simpa using h2⟩
 have hm:∀ρ:DL.Env,ρ[0]? = some (sT ab)->ju (qz [0] (fA fD (fV 1 (fV 0 aj))) ρ) ((dh ab aa).map λx=>.int x.2)=some ((dh ab aa).map λx=>.tup [.int (aG x.1),.int x.2]):=λρ h0=>
  iz (dh ab aa) λx hx=>by
   obtain⟨h1,h2⟩:=M x hx;obtain⟨ha,U⟩:=O x h1;have hd:=rM U;unfold tq at hd;rw[h2,if_neg (by decide)]at hd;have hr:fD [.tup ab,.int x.2]=sT [.int (aG x.1),.int x.2]:=av rfl (ax (aN [.int (aG x.1),.int x.2] (aI (d:=.int (aG x.1)) (b:=false) (aN [x.1] (by simp[ha]) hd) rfl) (by simp[sizeLine])));show(fA fD _ _).map _=_;rw[aN [.tup ab,.int x.2] (by simp[dn,h0]) hr];rfl
 have hk:dJ ((dh ab aa).map λx=>D.tup [.int (aG x.1),.int x.2])=some ((dh ab aa).map kA):=gY _ λx _=>rfl;have hz:((dh ab aa).map kA).zip ((dh ab aa).map λx=>D.int x.2)=(dh ab aa).map λx=>(kA x,D.int x.2):=by rw[zip_map']
 have k:((dh ab aa).map (·.2)).Nodup:=List.Nodup.sublist (List.Sublist.map _ (filter_sublist)) (dz ab aa);have T:((dh ab aa).map kA).length<64/\eK ((dh ab aa).map kA)=true/\fQ ((dh ab aa).map kA)=true/\(((dh ab aa).map kA).map cM).Nodup:=by
  refine⟨by rw[vI];lia,wQ _,?_,?_⟩
  ·unfold fQ;rw[or_eq_true];left;simp[all_eq_true,kA]
  ·rw[uP];exact List.Pairwise.map _ (λa b h e=>h (FZ e)) (pairwise_map.mp k)
 refine av rfl (de i j (ax ?_));show(qA (ai 2) _ _)=_;unfold qA;show((some (D.lst ((dh ab aa).map λx=>D.int x.2),false)).bind _)=_;simp only[vJ];rw[hm _ rfl];simp only[vJ];rw[hk];simp only[vJ];rw[if_pos T];unfold jv;rw[hz];have f:((Pp ab aa).map λx=>(kA x,D.int x.2))=eJ (λp:List At×D=>cM p.1) ((dh ab aa).map λx=>(kA x,D.int x.2)):=by
  refine k6 _ (λx hx y hy e=>?_) ((aX _ _).map _) ?_
  ·obtain⟨a,ha,rfl⟩:=vO hx;obtain⟨b,hb,rfl⟩:=vO hy;rw[Jd (M a ha).1 (M b hb).1 (FZ e)]
  ·exact pairwise_map.mpr (gf _ _)
 rw[<-f,uP];rfl
structure Cl where
 o:Str
 p:Str
 s:Int
 u:Option Int
 n:Nat
noncomputable def uD:OI->D
 |none=>.non
 |some x=>.int x
def aY (c:Cl):D:=.tup [.str c.o,.str c.p,.int c.s,uD c.u,.int c.n]
theorem BQ (u:OI):bB (uD u)=true:=by cases u<;>rfl
theorem mM (c:Cl):bB (aY c)=true:=by simp[aY,BQ]
theorem j8 (cs:List Cl):bE (cs.map aY)=true:=bZ λd hd=>by obtain⟨c,_,rfl⟩:=vO hd;exact mM c
noncomputable def iA (c:Cl)(day:Int):Bool:=decide (c.s<=day) && (match c.u with|none=>true|some x=>decide (day<x))
theorem Ws (d e f g:D)(r:LD):oq (d::e::f::g::r) 3=some g:=by have:=k9 (xs:=d::e::f::g::r) (j:=3) (by simp);simpa using this
theorem Wt (d e f g h:D)(r:LD):oq (d::e::f::g::h::r) 4=some h:=by have:=k9 (xs:=d::e::f::g::h::r) (j:=4) (by simp);simpa using this
theorem Pq (c:Cl):bD (aY c) (.int 0)=sS c.o:=by simp[aY,D0]
theorem NA (c:Cl):bD (aY c) (.int 1)=sS c.p:=by simp[aY,BN]
theorem QL (c:Cl):bD (aY c) (.int 2)=sI c.s:=by simp[aY,U0]
theorem Wu (c:Cl):bD (aY c) (.int 3)=some (uD c.u,false):=by simp[aY,Ws]
theorem QM (c:Cl):bD (aY c) (.int 4)=sI c.n:=by simp[aY,Wt]
theorem cI (ds:LD)(h:ds.length<=100):be ds=sT ds:=if_pos (dR (by lia))
theorem jf (ds:LD)(h:ds.length<=100):bI ds=lT ds:=if_pos (dR (by lia))
theorem BR (s day:Int)(u:OI):j0 [.int day,.tup [.int s,uD u]]=sO (decide (s<=day) && (match u with|none=>true|some x=>decide (day<x))):=by
 refine av rfl (ax (dQ (b1:=false) (by simp[D0]) λ_=>?_));cases u with
 |none=>exact qT (p:=true) (q:=true) (b1:=false) (by simp[BN,uD]) (by simp)
 |some x=>exact qT (p:=false) (q:=decide (day<x)) (b1:=false) (by simp[BN,uD]) λ_=>by simp[BN,uD]
theorem rN (c:Cl)(day:Int):cU [aY c,.int day]=sO (iA c day) :=
 av rfl (ax (aN [.int day,.tup [.int c.s,uD c.u]] (cw rfl (cw (aN [.int c.s,uD c.u] (aI (bC (aY c) (.int 2) rfl rfl (QL c)) (aI (bC (aY c) (.int 3) rfl rfl (Wu c)) rfl)) (cI _ (by simp))) rfl)) (BR c.s day c.u)))
theorem yX (c:Cl):dw [aY c]=sT [.int c.s,.int c.n] :=
 av rfl (ax (aN [.int c.s,.int c.n] (aI (bC (aY c) (.int 2) rfl rfl (QL c)) (aI (bC (aY c) (.int 4) rfl rfl (QM c)) rfl)) (cI _ (by simp))))
theorem wS (c:Cl):gB [aY c]=sT [.str c.o,.int c.s,.int c.n] :=
 av rfl (ax (aN [.str c.o,.int c.s,.int c.n] (aI (bC (aY c) (.int 0) rfl rfl (Pq c)) (aI (bC (aY c) (.int 2) rfl rfl (QL c)) (aI (bC (aY c) (.int 4) rfl rfl (QM c)) rfl))) (cI _ (by simp))))
noncomputable def kS (c:Cl):List At:=[.i c.s,.i c.n]
def mN:Cl->List Cl->Cl
 |b,[]=>b
 |b,x::r=>if bq (kS x) (kS b)=some true then mN x r else mN b r
def tu:Cl->List Cl->Cl
 |b,[]=>b
 |b,x::r=>if bq (kS b) (kS x)=some true then tu x r else tu b r
theorem rO:∀(r:List Cl)(b:Cl),lE (kS b,aY b) (r.map λx=>(kS x,aY x))=aY (mN b r)
 |[],b=>rfl
 |x::r,b=>by
  rw[uY,lE,mN];split
  ·exact rO r x
  ·exact rO r b
theorem rP:∀(r:List Cl)(b:Cl),m8 (kS b,aY b) (r.map λx=>(kS x,aY x))=aY (tu b r)
 |[],b=>rfl
 |x::r,b=>by
  rw[uY,m8,tu];split
  ·exact rP r x
  ·exact rP r b
theorem BS (cs:List Cl):eK (cs.map kS)=true:=by
 unfold eK;simp[all_eq_true,kS,M0]
theorem rQ (ρ:DL.Env)(cs:List Cl):ju (tm dw ρ) (cs.map aY)=some (cs.map λc=>.tup [.int c.s,.int c.n]):=iz cs λc _=>by
 show(dw [aY c]).map _=_;rw[yX];rfl
theorem oV (cs:List Cl):dJ (cs.map λc=>D.tup [.int c.s,.int c.n])=some (cs.map kS):=gY cs λc _=>rfl
theorem Ga (e:f ρ=some (.lst ((b::r).map aY),bb)):ui f (tm dw) ρ=some (aY (mN b r),false):=by
 unfold ui Ml;rw[e,vJ];dsimp only;rw[rQ,vJ,oV,vJ,if_pos (BS _)];have:((b::r).map kS).zip ((b::r).map aY)=(kS b,aY b)::r.map λx=>(kS x,aY x):=by rw[zip_map'];rfl
 rw[this];show some (lE _ _,false)=_;rw[rO]
theorem M2 (e:f ρ=some (.lst ((b::r).map aY),bb)):uh f (tm dw) ρ=some (aY (tu b r),false):=by
 unfold uh Ml;rw[e,vJ];dsimp only;rw[rQ,vJ,oV,vJ,if_pos (BS _)];have:((b::r).map kS).zip ((b::r).map aY)=(kS b,aY b)::r.map λx=>(kS x,aY x):=by rw[zip_map'];rfl
 rw[this];show some (m8 _ _,false)=_;rw[rP]
def iB (rl:Str)(b:Cl)(r:List Cl):Cl:=if rl = "last" then tu b r else mN b r
theorem Gb (rl:Str)(b:Cl)(r:List Cl):lW [.lst ((b::r).map aY),.str rl]=sS (iB rl b r).p:=by
 unfold iB;by_cases h:rl = "last"
 ·rw[if_pos h];exact av rfl (bA (bT (a:=rl) (bb:=false) rfl (xq h)) (ax (bC (aY (tu b r)) (.int 1) (M2 (bb:=false) rfl) rfl (NA _))))
 ·rw[if_neg h];exact av rfl (aE (bT (a:=rl) (bb:=false) rfl (DP h)) (ax (bC (aY (mN b r)) (.int 1) (Ga (bb:=false) rfl) rfl (NA _))))
theorem rR:∀(r:List Cl)(b:Cl),mN b r∈b::r
 |[],b=>by simp[mN]
 |x::r,b=>by
  rw[mN];split
  ·exact mZ _ (rR r x)
  ·rcases vP (rR r b)with h|h
   ·rw[h];exact mX
   ·exact mZ _ (mZ _ h)
theorem rS:∀(r:List Cl)(b:Cl),tu b r∈b::r
 |[],b=>by simp[tu]
 |x::r,b=>by
  rw[tu];split
  ·exact mZ _ (rS r x)
  ·rcases vP (rS r b)with h|h
   ·rw[h];exact mX
   ·exact mZ _ (mZ _ h)
theorem D1 (rl:Str)(b:Cl)(r:List Cl):iB rl b r∈b::r:=by
 unfold iB;split
 ·exact rS r b
 ·exact rR r b
noncomputable def NB (cs:List Cl)(o:Str)(day:Int):List Cl:=cs.filter λc=>decide (c.o=o) && iA c day
def mf (cs:List Cl):LS:=lD (iZ (cs.map (·.p)))
def Pr:List Cl->Nat
 |[]=>0
 |b::r=>(mN b r).n
def oW (rl:Str):List Cl->D
 |[]=>.tup [.str "none"]
 |b::r=>if 1<(mf (b::r)).length/\rl = "open" then .tup [.str "parted",.lst ((mf (b::r)).map .str)]
  else .tup [.str "one",.str (iB rl b r).p,.int (Pr ((b::r).filter λc=>decide (c.p=(iB rl b r).p)))]
def jW (cs:List Cl)(o rl:Str)(day:Int):D:=oW rl (NB cs o day)
theorem Je {z:Str}:iZ (z::zs)≠[]:=by
 have:∀(O:LS)(M:LS),z∈M->z∈O.foldl jX M:=λO=>by
  induction O with
  |nil=>intro M h;exact h
  |cons a l T=>intro M h;exact T _ (ym.mpr (.inl h))
 have h:=this zs (jX [] z) (ym.mpr (.inr rfl));intro e;unfold iZ at e;rw[foldl_cons]at e;rw[e]at h;cases h
theorem kM:aq [row h ("root" : Str) [.str o,.int m,.int f,.str rl],.str "office"]=sS o:=bz (i:=0) dq rfl
theorem D2:aq [row h ("root" : Str) [.str o,.int m,.int f,.str rl],.str "rule"]=sS rl:=bz (i:=3) dq rfl
theorem rT (zs:LS):iO (zs.map .str)=some zs:=by
 induction zs with
 |nil=>rfl
 |cons z zs M=>simp[M]
theorem mO (cs:List Cl)(hl:cs.length<=60)(day:Int):dW [.lst (cs.map aY),row h ("root" : Str) [.str o,.int m,.int f,.str rl],.int day]=some (jW cs o rl day,false):=by
 let rt:D:=row h ("root" : Str) [.str o,.int m,.int f,.str rl];have h1:=fX (fi:=cn (ai 0)) (nT:=1) (cap:=[2,1]) (tg:=dj 0) (c:=fF (bw (f2 eV (dE 0 0) (fA aq (fV 2 (af (fS "office") aj))))) (bw (fA cU (fV 0 (fV 1 aj))))) (fe:=ai 0)
  (ρ:=[sL (cs.map aY),some (rt,false),sI day,none,none,none,none]) cs aY (λc=>decide (c.o=o) && iA c day) aY (by simp) (by lia) λc hc=>by
   refine⟨_,rfl,fw (cY (bC (.str c.o) (.str o) (bC (aY c) (.int 0) (by simp[dn]) rfl (Pq c)) (aN [rt,.str "office"] (by simp[dn]) kM) (by simp))) λ_=>cY (aN [aY c,.int day] (by simp[dn]) (rN c day)),λ_=>⟨false,by simp[dn]⟩⟩
 have U:bN (cn (ai 0)) 1 [2,1] (dj 0) (fF (bw (f2 eV (dE 0 0) (fA aq (fV 2 (af (fS "office") aj))))) (bw (fA cU (fV 0 (fV 1 aj))))) (ai 0) [sL (cs.map aY),some (rt,false),sI day,none,none,none,none]=lT ((NB cs o day).map aY):=h1;have d:(NB cs o day).length<=60:=vR (vM _ _) hl;unfold jW;generalize NB cs o day=al at U d;have h2:∀ρ:DL.Env,ρ[3]? = some (lT (al.map aY))->f1 gA (bN (cn (ai 3)) 1 [] (dj 0) fM (dE 0 1)) ρ=lT ((mf al).map .str):=λρ h3=>by
  have hc:=kB (fi:=cn (ai 3)) (nT:=1) (cap:=[]) (tg:=dj 0) (fe:=dE 0 1) (ρ:=ρ) al aY (λc=>.str c.p) (by simp[h3]) (by lia) λc hc=>⟨_,rfl,false,bC (aY c) (.int 1) (by simp[dn]) rfl (NA c)⟩;have e2:al.map (λc=>D.str c.p)=(al.map (·.p)).map .str:=by rw[uP];rfl
  rw[e2]at hc;unfold f1;rw[hc,vJ];show(iO ((al.map (·.p)).map .str)).bind _=_;rw[rT,vJ,if_pos (by rw[vI];lia)];rfl
 have g:bE ((mf al).map D.str)=true:=eA _;refine av rfl (de (ds:=al.map aY) U (j8 al) (de (ds:=(mf al).map .str) (h2 _ rfl) g ?_));cases al with
 |nil=>exact bA (cY (by simp[mf,iZ,lD])) (ax (aN [.str "none"] rfl (cI _ (by simp))))
 |cons b r=>
  have i:(mf (b::r)).length≠0:=by
   unfold mf;rw[(ge _).length_eq];intro e;exact Je (List.length_eq_zero_iff.mp e)
  refine aE (cY (by simp[i])) ?_;have M:∀ρ:DL.Env,ρ[1]? = some (some (rt,false))->fA aq (fV 1 (af (fS "rule") aj)) ρ=sS rl:=λρ j=>aN [rt,.str "rule"] (by simp[j]) D2;by_cases hp:1<(mf (b::r)).length/\rl = "open"
  ·have:oW rl (b::r)=.tup [.str "parted",.lst ((mf (b::r)).map .str)]:=by rw[oW,if_pos hp]
   rw[this];exact bA (fw (p:=true) (q:=true) (cY (by simp;lia)) λ_=>bT (bb:=false) (M _ rfl) (xq hp.2)) (ax (aN [.str "parted",.lst ((mf (b::r)).map .str)] (by simp) (cI _ (by simp))))
  ·have:oW rl (b::r)=.tup [.str "one",.str (iB rl b r).p,.int (Pr ((b::r).filter λc=>decide (c.p=(iB rl b r).p)))]:=by rw[oW,if_neg hp]
   rw[this];have O:fF (bw (f2 CP (fA gd (fV 4 aj)) (fI 1))) (bw (f2 eV (fA aq (fV 1 (af (fS "rule") aj))) (fS "open"))) [sL (cs.map aY),some (rt,false),sI day,lT ((b::r).map aY),lT ((mf (b::r)).map .str),none,none]=some false:=by
    by_cases h5:1<(mf (b::r)).length
    ·exact fw (p:=true) (q:=false) (cY (by simp;lia)) λ_=>bT (bb:=false) (M _ rfl) (DP λe=>hp ⟨h5,e⟩)
    ·exact fw (p:=false) (q:=false) (cY (by simp;lia)) (by simp)
   have k:=D1 rl b r;let ch:=iB rl b r;have a:=fX (fi:=cn (ai 3)) (nT:=1) (cap:=[5]) (tg:=dj 0) (c:=bw (f2 eV (dE 0 1) (ai 1))) (fe:=ai 0) (ρ:=[sL (cs.map aY),some (rt,false),sI day,lT ((b::r).map aY),lT ((mf (b::r)).map .str),sS ch.p,none]) (b::r) aY (λc=>decide (c.p=ch.p)) aY (by simp) (by lia) λc hc=>⟨_,rfl,cY (bC (.str c.p) (.str ch.p) (bC (aY c) (.int 1) (by simp[dn]) rfl (NA c)) (by simp[dn]) (by simp)),λ_=>⟨false,by simp[dn]⟩⟩;obtain⟨b2,T,hf⟩:∃b2 T,(b::r).filter (λc=>decide (c.p=ch.p))=b2::T:=by
    cases hq:(b::r).filter (λc=>decide (c.p=ch.p)) with
    |nil=>
     have:=List.filter_eq_nil_iff.mp hq _ k;simp[ch]at this
    |cons b2 T=>exact⟨b2,T,rfl⟩
   rw[hf]at a |-;refine aE O (gL (.str ch.p) (aN [.lst ((b::r).map aY),.str rl] (cw (by simp) (aI (M _ rfl) rfl)) (Gb rl b r)) rfl (gL (aY (mN b2 T)) (Ga (bb:=true) a) (mM _) (ax (aN [.str "one",.str ch.p,.int (mN b2 T).n] (cw rfl (cw rfl (aI (bC (aY (mN b2 T)) (.int 4) rfl rfl (QM _)) rfl))) (cI _ (by simp))))))
def Kz:D->D
 |.tup ds=>.tup (jF ds none (some 2))
 |d=>d
def iC (cs:List Cl)(o rl p:Str)(day:Int):Bool:=cJ (Kz (jW cs o rl day)) (.tup [.str "one",.str p])
theorem Ay (n:Nat)(zs:LS):(zs.map D.str).all (aQ n)=true:=by
 induction zs with
 |nil=>rfl
 |cons a l M=>simp
theorem D3 (rl:Str)(M:List Cl):∃ds,oW rl M=.tup ds/\ds.all (aQ 5)=true:=by
 cases M with
 |nil=>exact⟨_,rfl,by simp⟩
 |cons b r=>
  rw[oW];split
  ·exact⟨_,rfl,by simp only[all_cons,all_nil,aQ,Bool.and_true,Bool.true_and];exact Ay _ _⟩
  ·exact⟨_,rfl,by simp⟩
theorem Gc (h:ds.all (aQ 5)=true):(jF ds lo hi).all (aQ 5)=true:=by
 rw[all_eq_true]at h |-;exact λd hd=>h d (List.mem_of_mem_drop (List.mem_of_mem_take hd))
theorem u5 (h:ds.all (aQ 5)=true):aQ 40 (.tup ds)=true:=jR 6 40 _ (by decide) (by simpa only[aQ]using h)
theorem wT (cs:List Cl)(hl:cs.length<=60)(p:Str)(day:Int):cP [.lst (cs.map aY),row h ("root" : Str) [.str o,.int m,.int f,.str rl],.str p,.int day]=sO (iC cs o rl p day):=by
 have hb:=mO cs hl (h:=h) (o:=o) (rl:=rl) (m:=m) (f:=f) day;obtain⟨ds,e,hd⟩:=D3 rl (NB cs o day);have M:jW cs o rl day=.tup ds:=e;refine av rfl (ax (bC (Kz (jW cs o rl day)) (.tup [.str "one",.str p]) ?_ (by simp[sizeLine]) ?_))
 ·have hc:=B9 (F:=dW) (fa:=fV 0 (fV 1 (fV 3 aj))) (ρ:=[sL (cs.map aY),some (row h ("root" : Str) [.str o,.int m,.int f,.str rl],false),sS p,sI day]) (ds:=[.lst (cs.map aY),row h ("root" : Str) [.str o,.int m,.int f,.str rl],.int day]) rfl hb;rw[M]at hc |-;show Bh (fA dW (fV 0 (fV 1 (fV 3 aj)))) jp (iL (fI 2)) _=_;unfold Bh;rw[show(List.map (λd=>some (d,false)) [D.lst (cs.map aY),row h ("root" : Str) [.str o,.int m,.int f,.str rl],.str p,.int day]++List.replicate 0 none:DL.Env)=[sL (cs.map aY),some (row h ("root" : Str) [.str o,.int m,.int f,.str rl],false),sS p,sI day]from rfl,hc];rfl
 ·unfold iC eV;rw[if_pos];rw[M];exact⟨u5 (Gc hd),u5 (by simp)⟩
noncomputable def az (j:Nat):D->Str
 |.tup [_,.tup (_::aH)]=>match aH[j]? with
  |some (.str s)=>s
  |_=>("" : Str)
 |_=>("" : Str)
noncomputable def fY (j:Nat):D->Int
 |.tup [_,.tup (_::aH)]=>match aH[j]? with
  |some (.int s)=>s
  |_=>0
 |_=>0
theorem Cd.root_of (h:Cd ("root" : Str) r):∃o rl,∃m f:Int,r=[.str o,.int m,.int f,.str rl]:=by
 generalize hk:("root" : Str)=k at h;cases h with
 |root o rl m f=>exact⟨o,rl,m,f,rfl⟩
 |named=>exact cV hk
 |chosen=>exact cV hk
 |heir=>exact cV hk
 |three _ hh=>rcases hh with rfl|rfl|rfl<;>exact cV hk
 |other _ hh=>rcases hh with rfl|rfl|rfl|rfl|rfl<;>exact cV hk
theorem u6 {κ α:Type}[DecidableEq κ]{ks:List κ}{k:κ}{x y:α}:∀ {xs:List α},y∈dM ks xs k x->y=x\/y∈xs:=by
 intro xs h;unfold dM at h;split at h
 ·rename_i M;clear M;induction ks generalizing xs with
  |nil=>simp at h
  |cons a ks O=>
   cases xs with
   |nil=>simp at h
   |cons b xs=>
    rw[zipWith_cons_cons,mem_cons]at h;rcases h with h|h
    ·split at h
     ·exact .inl h
     ·exact .inr (by rw[h];exact mX)
    ·rcases O h with h|h
     ·exact .inl h
     ·exact .inr (mZ _ h)
 ·rcases mem_append.mp h with h|h
  ·exact .inr h
  ·exact .inl (uT h)
theorem u7:∀(l:List (dO×D))(a:LK×LD)(y:D),y∈(l.foldl qF a).2->y∈a.2\/∃p∈l,p.2=y
 |[],a,y,h=>.inl h
 |p::l,a,y,h=>by
  rw[foldl_cons]at h;rcases u7 l _ y h with h|⟨q,hq,e⟩
  ·rcases u6 (show y∈dM a.1 a.2 p.1 p.2 from h)with h|h
   ·exact .inr ⟨p,mX,h.symm⟩
   ·exact .inl h
  ·exact .inr ⟨q,mZ _ hq,e⟩
theorem uA {α:Type}(f:α->Str)(g:α->D):∀(l:List α),ja (l.map λx=>D.tup [.str (f x),g x])=some (l.map λx=>(.inr (f x),g x))
 |[]=>rfl
 |x::l=>by
  rw[uY,ja,uA f g l];rfl
theorem rV {κ:Type}[DecidableEq κ]:∀ {ks:List κ}{vs:LD}{k:κ}{v:D},cu ks vs k=some v->v∈vs
 |k'::ks,d::ds,k,v,h=>by
  unfold cu at h;split at h
  ·cases h;exact mX
  ·exact mZ _ (rV h)
 |[],_,_,_,h=>by simp[cu]at h
 |_::_,[],_,_,h=>by simp[cu]at h
noncomputable def mP (KL:List (D×Nat)):List (dO×D):=(KL.filter λx=>bi x.1).map λx=>(.inr (az 0 x.1),x.1)
def BU (KL:List (D×Nat))(o:Str):Option D:=cu (cj (mP KL)).1 (cj (mP KL)).2 (.inr o)
theorem rW (g:wR r)(h:bi r=true):∃a o rl,∃m f:Int,r=row a ("root" : Str) [.str o,.int m,.int f,.str rl]:=by
 obtain⟨a,k,aH,rfl,d⟩:=g;have hk:k = "root":=DQ h;subst hk;obtain⟨o,rl,m,f,rfl⟩:=d.root_of;exact⟨a,o,rl,m,f,rfl⟩
theorem dF (g:gG ab)(hx:x∈ak ab aa):oq ab (x.2:Int)=some x.1/\wR x.1:=⟨cD (br hx),g.2 _ (vL (br hx))⟩
theorem yY (g:gG ab)(h:BU (ak ab aa) o=some v):∃a M rl,∃m f:Int,v=row a ("root" : Str) [.str M,.int m,.int f,.str rl]:=by
 have hv:=rV h;rcases u7 _ ([],[]) v hv with h|⟨p,hp,e⟩
 ·cases h
 ·obtain⟨x,hx,rfl⟩:=vO hp;obtain⟨h1,h2⟩:=vN hx;rw[<-e];exact rW (dF g h1).2 h2
theorem rX (g:gG ab)(aa:Int):gw [.tup ab,.int aa]=sF (.dk (cj (mP (ak ab aa))).1 (cj (mP (ak ab aa))).2):=by
 have hl:=cq ab aa;have O:=g.1;have h1:=kB (fi:=cn (fA cK (fV 0 (fV 1 aj)))) (nT:=1) (cap:=[0]) (tg:=dj 0) (fe:=f2 bD (ai 1) (ai 0)) (ρ:=[sT ab,sI aa,none]) (ak ab aa) (λx=>.int x.2) Prod.fst
  (by
   show(fA cK (fV 0 (fV 1 aj)) _).bind _=_;rw[aN [.tup ab,.int aa] rfl (kK ab g.rp g.le aa)];rfl) (by lia) λx hx=>by
   have ha:=(dF g hx).1;exact⟨_,rfl,false,by simp[dn,ha]⟩
 have hn:bE ((ak ab aa).map Prod.fst)=true:=bZ λd hd=>by
  obtain⟨x,hx,rfl⟩:=vO hd;exact(dF g hx).2.rp.flat
 have h2:=fX (fi:=cn (ai 2)) (nT:=1) (cap:=[]) (tg:=dj 0) (c:=bw (f2 eV (fA aO (fV 0 aj)) (fS "root"))) (fe:=fA be (af (fA aq (fV 0 (af (fS "office") aj))) (fV 0 aj)))
  (ρ:=[sT ab,sI aa,lT ((ak ab aa).map Prod.fst)]) (ak ab aa) Prod.fst (λx=>bi x.1) (λx=>.tup [.str (az 0 x.1),x.1]) (by simp) (by lia) λx hx=>by
   have M:=(dF g hx).2;refine⟨_,rfl,bT (a:=kindOf x.1) (bb:=false) (aN [x.1] rfl (je M)) rfl,λhp=>⟨false,?_⟩⟩;obtain⟨a,o,rl,m,f,e⟩:=rW M hp;refine aN [.str (az 0 x.1),x.1] (cw (aN [x.1,.str "office"] rfl ?_) rfl) (cI _ (by simp));rw[e];exact kM
 refine av rfl (de (ds:=(ak ab aa).map Prod.fst) h1 hn (ax (aN [.lst (((ak ab aa).filter λx:D×Nat=>bi x.1).map λx:D×Nat=>D.tup [.str (az 0 x.1),x.1])] (aI h2 rfl) ?_)));rw[jK,uA (λx:D×Nat=>az 0 x.1) Prod.fst];rfl
def px:D×Nat->List (D×Nat)->D×Nat
 |b,[]=>b
 |b,x::r=>if bq (kA x) (kA b)=some true then px x r else px b r
theorem wU:∀(r:List (D×Nat))(b:D×Nat),lE (kA b,.int b.2) (r.map λx=>(kA x,D.int x.2))=.int (px b r).2
 |[],b=>rfl
 |x::r,b=>by
  rw[uY,lE,px];split
  ·exact wU r x
  ·exact wU r b
def iD (KL:List (D×Nat))(p:Str)(day:Int)(i:Nat):Bool:=match KL.filter (λx=>told eC p day x.1) with
 |[]=>false
 |b::r=>decide ((px b r).2=i)
theorem Gd (g:gG ab)(aa:Int)(hx:x∈ak ab aa)(e:x.1=row a ("death" : Str) [.int d,.str p]):gh [.tup ab,.int aa,.int x.2]=sO (iD (ak ab aa) p d x.2):=by
 have ha:=(dF g hx).1;have j:=(dF g hx).2;have f:=wO ab g.rp g.le aa eC jS p d;have O:aq [x.1,.str "person"]=sS p:=by rw[e];exact bz (i:=1) dq rfl
 have T:aV [x.1]=sI d:=by rw[e];exact j7 (.inl (by decide +kernel)) rfl
 have M:x∈pw ab aa eC p d:=mem_filter.mpr ⟨hx,by rw[e];simp[told,row,eC,u0]⟩;have l:iD (ak ab aa) p d x.2=match pw ab aa eC p d with|[]=>false|b::r=>decide ((px b r).2=x.2):=rfl
 have U:∀y∈pw ab aa eC p d,∃h k dd,ab[y.2]? = some (row h k [.int dd,.str p])/\y.1=row h k [.int dd,.str p]/\cZ k=true:=λy hy=>by
  obtain⟨c,m⟩:=BO hy;obtain⟨h,k,dd,e2,h3,_⟩:=rK jS (g.rp _ (vL c)) m;exact⟨h,k,dd,by rw[c,e2],e2,h3⟩
 rw[l];cases hs:pw ab aa eC p d with
 |nil=>rw[hs]at M;cases M
 |cons b r=>
  rw[hs]at f U;have hm:∀ρ:DL.Env,ρ[0]? = some (sT ab)->ju (qz [0] (fA fD (fV 1 (fV 0 aj))) ρ) ((b::r).map λy=>.int y.2)=some ((b::r).map λy=>.tup [.int (aG y.1),.int y.2]):=λρ h0=>
   iz (b::r) λy hy=>by
    obtain⟨h,k,dd,c,e2,h3⟩:=U y hy;show(fA fD _ _).map _=_;rw[aN [.tup ab,.int y.2] (by simp[dn,h0]) (BP c h3),e2];rfl
  have hk:dJ ((b::r).map λy=>D.tup [.int (aG y.1),.int y.2])=some ((b::r).map kA):=gY _ λy _=>rfl;have hz:((b::r).map kA).zip ((b::r).map λy=>D.int y.2)=(kA b,D.int b.2)::r.map λy=>(kA y,D.int y.2):=by rw[zip_map'];rfl
  have n:bE ((b::r).map λy=>D.int y.2)=true:=bZ λd hd=>by obtain⟨y,_,rfl⟩:=vO hd;rfl
  refine av rfl (gL x.1 (by simp[ha]) j.rp.flat (de (ds:=(b::r).map λy=>.int y.2) (aN [.tup ab,.int aa,.tup (eC.map .str),.str p,.int d] (cw rfl (cw rfl (cw (aN [.str "death"] rfl (cI _ (by simp))) (aI (aN [x.1,.str "person"] rfl O) (aI (aN [x.1] rfl T) rfl))))) f) n (ax (bC (.int (px b r).2) (.int x.2) ?_ rfl ?_))))
  ·unfold ui Ml;show((some (D.lst ((b::r).map λy=>D.int y.2),false)).bind _)=_;rw[vJ];dsimp only;rw[hm _ rfl,vJ,hk,vJ,if_pos (wQ _),hz];show some (lE _ _,false)=_;rw[wU]
  ·rw[BB];congr 3;apply decide_eq_decide.mpr;lia
abbrev KL:=List (D×Nat)
noncomputable def rY (K:KL)(p:Str)(day:Int):Bool:=(K.filter λx=>told eC p day x.1).isEmpty
def Ps (K:KL)(p:Str)(day:Int):Bool:=match Ky (K.filter λx=>told mK p day x.1) with
 |none=>true
 |some x=>decide (kindOf x.1 = "found")
def wV (K:KL)(r:D):Bool:=dZ (kindOf r) && (rY K (cW r) (aG r) && Ps K (cW r) (aG r))
def Ge (r:D):Str:=if kindOf r = "named" then az 1 r else az 2 r
noncomputable def wW:LS:=[("named" : Str),"chosen","heir"]
def cQ (K:KL)(M:List Cl)(x:D×Nat):Bool :=
 if kindOf x.1 = "death" then iD K (az 1 x.1) (aG x.1) x.2
 else if kindOf x.1∈wW then match BU K (Ge x.1) with
  |none=>false
  |some v=>if kindOf x.1 = "named" then true else wV K x.1 && iC M (az 0 v) (az 3 v) (az 1 x.1) (aG x.1)
 else false
theorem Jf (ab:LD)(aa:Int)(p:Str)(day:Int):nV ab aa p day=rY (ak ab aa) p day:=rfl
theorem Jg (h:aU r<=aa):gN ab aa r=wV (ak ab aa) r:=by
 unfold gN wV;rw[xq h,Bool.true_and];rfl
theorem D4 (g:gG ab)(aa:Int)(M:List Cl)(n:M.length<=60)(hx:x∈ak ab aa)(T:bi x.1=false):mF [.tup ab,.int aa,.lst (M.map aY),.int x.2]=sO (cQ (ak ab aa) M x):=by
 obtain⟨ha,c⟩:=dF g hx;have hh:aU x.1<=aa:=DQ (vN hx).2;have hf:bB x.1=true:=c.rp.flat;have hw:∀ρ:DL.Env,ρ[4]? = some (some (x.1,false))->fA aO (fV 4 aj) ρ=sS (kindOf x.1):=λρ h4=>aN [x.1] (by simp[h4]) (je c);have O:∀ρ:DL.Env,ρ[4]? = some (some (x.1,false))->bw (f2 hW (fA aO (fV 4 aj)) (fA be (af (fS "named") (af (fS "chosen") (af (fS "heir") aj))))) ρ=some (!decide (kindOf x.1∈wW)):=λρ h4=>
  cY (bC (.str (kindOf x.1)) (.tup (wW.map .str)) (hw ρ h4) (by simp[sizeLine,wW]) (oS _ _))
 by_cases hd:kindOf x.1 = "death"
 ·obtain⟨a,k,aH,e,d⟩:=c;have hk:k = "death":=by rw[e]at hd;exact hd
  subst hk;obtain⟨dd,p,rfl⟩:=d.deed.three (by decide +kernel);have hc:cQ (ak ab aa) M x=iD (ak ab aa) p dd x.2:=by
   unfold cQ;rw[if_pos hd,e];rfl
  rw[hc];exact av rfl (gL x.1 (by simp[ha]) hf (bA (bT (bb:=false) (hw _ rfl) (xq hd)) (ax (aN [.tup ab,.int aa,.int x.2] rfl (Gd g aa hx e)))))
 ·by_cases h3:kindOf x.1∈wW
  ·have q:aq [x.1,.str "office"]=sS (Ge x.1):=by
    obtain⟨a,k,aH,e,d⟩:=c;rw[e]at h3 hd T |-;replace h3:k∈wW:=h3;clear hd T;cases d with
    |root=>exact cV h3
    |named d o p=>exact bz (i:=1) dq rfl
    |chosen d b o p s=>exact bz (i:=2) dq rfl
    |heir d b o p=>exact bz (i:=2) dq rfl
    |three _ hk=>rcases hk with rfl|rfl|rfl<;>exact cV h3
    |other _ hk=>rcases hk with rfl|rfl|rfl|rfl|rfl<;>exact cV h3
   have f:∀ρ:DL.Env,ρ[0]? = some (sT ab)->ρ[1]? = some (sI aa)->ρ[4]? = some (some (x.1,false))->f2 Fs (fA gw (fV 0 (fV 1 aj))) (fA aq (fV 4 (af (fS "office") aj))) ρ=some ((BU (ak ab aa) (Ge x.1)).getD .non,false):=λρ r t u=>
    bC (.dk (cj (mP (ak ab aa))).1 (cj (mP (ak ab aa))).2) (.str (Ge x.1)) (aN [.tup ab,.int aa] (by simp[r,t]) (rX g aa)) (aN [x.1,.str "office"] (by simp[u]) q) rfl
   cases hr:BU (ak ab aa) (Ge x.1) with
   |none=>
    rw[hr]at f;have hc:cQ (ak ab aa) M x=false:=by unfold cQ;rw[if_neg hd,if_pos h3,hr]
    rw[hc];exact av rfl (gL x.1 (by simp[ha]) hf (aE (bT (bb:=false) (hw _ rfl) (DP hd)) (aE (by rw[O _ rfl,xq h3];rfl) (gL .non (f _ rfl rfl rfl) rfl (bA (cY (bC .non .non rfl rfl (by simp))) (ax rfl))))))
   |some v=>
    rw[hr]at f;obtain⟨w,y,z,A,B,h⟩:=yY g hr;have j:bB v=true:=by rw[h];rfl
    have l:DX v .non=sO false:=by rw[h];simp[row]
    by_cases hn:kindOf x.1 = "named"
    ·have hc:cQ (ak ab aa) M x=true:=by unfold cQ;rw[if_neg hd,if_pos h3,hr];dsimp only;rw[if_pos hn]
     rw[hc];exact av rfl (gL x.1 (by simp[ha]) hf (aE (bT (bb:=false) (hw _ rfl) (DP hd)) (aE (by rw[O _ rfl,xq h3];rfl) (gL v (f _ rfl rfl rfl) j (aE (cY (bC v .non rfl rfl l)) (bA (bT (bb:=false) (hw _ rfl) (xq hn)) (ax rfl)))))))
    ·have hc:cQ (ak ab aa) M x=(wV (ak ab aa) x.1 && iC M (az 0 v) (az 3 v) (az 1 x.1) (aG x.1)):=by unfold cQ;rw[if_neg hd,if_pos h3,hr];dsimp only;rw[if_neg hn]
     have m:aq [x.1,.str "by"]=sS (az 1 x.1)/\aV [x.1]=sI (aG x.1):=by
      refine⟨?_,by rw[rM c];unfold tq;rw[T];rfl⟩;obtain⟨a,k,aH,e,d⟩:=c;rw[e]at h3 hn |-;replace h3:k∈wW:=h3;cases d with
      |root=>exact cV h3
      |named=>exact absurd rfl hn
      |chosen d b o p s=>exact bz (i:=1) dq rfl
      |heir d b o p=>exact bz (i:=1) dq rfl
      |three _ hk=>rcases hk with rfl|rfl|rfl<;>exact cV h3
      |other _ hk=>rcases hk with rfl|rfl|rfl|rfl|rfl<;>exact cV h3
     have hs:=mL ab g.rp g.le aa (br hx);rw[Jg hh]at hs;have U:cP [.lst (M.map aY),v,.str (az 1 x.1),.int (aG x.1)]=sO (iC M (az 0 v) (az 3 v) (az 1 x.1) (aG x.1)):=by
      rw[h];exact wT M n _ _
     rw[hc];refine av rfl (gL x.1 (by simp[ha]) hf (aE (bT (bb:=false) (hw _ rfl) (DP hd)) (aE (by rw[O _ rfl,xq h3];rfl) (gL v (f _ rfl rfl rfl) j (aE (cY (bC v .non rfl rfl l)) (aE (bT (bb:=false) (hw _ rfl) (DP hn)) (ax ?_)))))));exact dQ (b1:=false) (aN [.tup ab,.int aa,.int x.2] rfl hs) λ_=>aN [.lst (M.map aY),v,.str (az 1 x.1),.int (aG x.1)] (cw rfl (cw rfl (aI (aN [x.1,.str "by"] rfl m.1) (aI (aN [x.1] rfl m.2) rfl)))) U
  ·have hc:cQ (ak ab aa) M x=false:=by unfold cQ;rw[if_neg hd,if_neg h3]
   rw[hc];exact av rfl (gL x.1 (by simp[ha]) hf (aE (bT (bb:=false) (hw _ rfl) (DP hd)) (bA (by rw[O _ rfl,DP h3];rfl) (ax rfl))))
def gn (M:LS)(p:Str)(day:Int)(c:Cl):List Cl :=
 if(!decide (c.o∈M) || (!decide (c.p=p) || !(iA c day || decide (day<c.s))))=true then [c]else if c.s<day then [⟨c.o,p,c.s,some day,c.n⟩]else []
noncomputable def cr (O:List Cl)(M:LS)(p:Str)(day:Int):List Cl:=O.flatMap (gn M p day)
theorem gp (M:LS)(p:Str)(day:Int):∀O:List Cl,(cr O M p day).length<=O.length
 |[]=>vT _
 |c::O=>by
  unfold cr;rw[uO,uZ,vE];have h1:=gp M p day O;have h2:(gn M p day c).length<=1:=by
   unfold gn;split
   ·simp
   ·split<;>simp
  unfold cr at h1;lia
theorem Az (k:Str)(M:LS):hW (.str k) (.lst (M.map .str))=sO (!decide (k∈M)):=by
 simp only[hW,jq,vJ,rH];rw[if_pos ⟨rfl,nS M⟩]
theorem yZ (O:List Cl)(r:O.length<=60)(M:LS)(p:Str)(day:Int):pH [.lst (O.map aY),.lst (M.map .str),.str p,.int day]=lT ((cr O M p day).map aY):=by
 obtain⟨ρ',e,f,rfl⟩:=jy (tg:=dj 5) (g:=re) (λj ρ=>∃f:OB,ρ=[sL (O.map aY),sL (M.map .str),sS p,sI day,lT ((cr (O.take j) M p day).map aY),f]) (O.map aY)
  [sL (O.map aY),sL (M.map .str),sS p,sI day,lT [],none] ⟨none,rfl⟩ (by
   rintro j d ρ hd ⟨f,rfl⟩;rw[vA]at hd;obtain⟨c,hc,rfl⟩:=oY hd;have hj:j<O.length:=(vV hc).1;have i:cr (O.take (j+1)) M p day=cr (O.take j) M p day++gn M p day c:=by
    unfold cr;rw[take_add_one,hc,toList_some,flatMap_append,uO,flatMap_nil,uQ]
   have t:(cr (O.take j) M p day).length<=60:=vR (gp M p day _) (by rw[length_take];lia);let U:DL.Env:=[sL (O.map aY),sL (M.map .str),sS p,sI day,lT ((cr (O.take j) M p day).map aY),some (aY c,false)];have k:dE 5 0 U=sS c.o:=bC (aY c) (.int 0) rfl rfl (Pq c);have l:dE 5 1 U=sS c.p:=bC (aY c) (.int 1) rfl rfl (NA c);have h:dE 5 2 U=sI c.s:=bC (aY c) (.int 2) rfl rfl (QL c);have m:dE 5 4 U=sI c.n:=bC (aY c) (.int 4) rfl rfl (QM c);have T:jm (bw (f2 hW (dE 5 0) (ai 1))) (jm (bw (f2 zT (dE 5 1) (ai 2))) (eX (jm (bw (fA cU (fV 5 (fV 3 aj)))) (bw (f2 CP (dE 5 2) (ai 3)))))) U=some (!decide (c.o∈M) || (!decide (c.p=p) || !(iA c day || decide (day<c.s)))) :=
    cC (cY (bC (.str c.o) (.lst (M.map .str)) k rfl (Az _ _))) λ_=>cC (cY (bC (.str c.p) (.str p) l rfl (by simp))) λ_=>bX (cC (cY (aN [aY c,.int day] rfl (rN c day))) λ_=>cY (bC (.int c.s) (.int day) h rfl (by simp)))
   by_cases h1:(!decide (c.o∈M) || (!decide (c.p=p) || !(iA c day || decide (day<c.s))))=true
   ·have a:gn M p day c=[c]:=by unfold gn;rw[if_pos h1]
    rw[h1]at T;refine⟨_,_,rfl,.inl (lU T (jL (ds:=(cr (O.take j) M p day).map aY) (d:=aY c) (b:=false) rfl rfl (mM c) (bY (by simp;lia)))),some (aY c,false),?_⟩;rw[i,a,uW];rfl
   ·rw[not_eq_true]at h1;rw[h1]at T;by_cases h2:c.s<day
    ·have a:gn M p day c=[⟨c.o,p,c.s,some day,c.n⟩]:=by unfold gn;rw[if_neg (by rw[h1];decide),if_pos h2]
     refine⟨_,_,rfl,.inl (nM T (lU (cY (bC (.int c.s) (.int day) h rfl (by simp[h2]))) (jL (ds:=(cr (O.take j) M p day).map aY) (d:=aY ⟨c.o,p,c.s,some day,c.n⟩) (b:=false) rfl (aN [.str c.o,.str p,.int c.s,.int day,.int c.n] (aI k (cw rfl (aI h (cw rfl (aI m rfl))))) (cI _ (by simp))) (mM _) (bY (by simp;lia))))),some (aY c,false),?_⟩;rw[i,a,uW];rfl
    ·have a:gn M p day c=[]:=by unfold gn;rw[if_neg (by rw[h1];decide),if_neg h2]
     refine⟨_,_,rfl,.inl (nM T (nM (cY (bC (.int c.s) (.int day) h rfl (by simp;lia))) rfl)),some (aY c,false),?_⟩;rw[i,a,uQ];rfl)
 have q:jo (dj 5) re (O.map aY) [sL (O.map aY),sL (M.map .str),sS p,sI day,lT [],none]=some (.nx [sL (O.map aY),sL (M.map .str),sS p,sI day,lT ((cr O M p day).map aY),f]):=by
  rw[e];have:O.take (O.map aY).length=O:=by rw[vI,take_length]
  rw[this]
 exact av rfl (de (ds:=[]) (by simp[sizeLine]) rfl (eM (mC (ds:=O.map aY) (by simp[ly]) q) (pF rfl)))
theorem K0 (M:aq [r,.str "office"]=sS o)(hp:aq [r,.str "person"]=sS p)(s:Int)(n:Nat):gE [r,.int s,.int n]=some (aY ⟨o,p,s,none,n⟩,false) :=
 av rfl (ax (aN [.str o,.str p,.int s,.non,.int n] (aI (aN [r,.str "office"] rfl M) (aI (aN [r,.str "person"] rfl hp) rfl)) (cI _ (by simp))))
theorem D5 (M:List Cl)(O:M.length<=60)(n:Nat):im [.lst (M.map aY),row a ("chosen" : Str) [.int d,.str b,.str o,.str p,.int s],.int n]=lT ((cr M [o] b s++[(⟨o,p,s,none,n⟩:Cl)]).map aY):=by
 let r:D:=row a ("chosen" : Str) [.int d,.str b,.str o,.str p,.int s];have T:aq [r,.str "office"]=sS o:=bz (i:=2) dq rfl;have hp:aq [r,.str "person"]=sS p:=bz (i:=3) dq rfl;have hb:aq [r,.str "by"]=sS b:=bz (i:=1) dq rfl;have hs:aq [r,.str "since"]=sI s:=bz (i:=4) dq rfl;have hl:=gp [o] b s M;refine av rfl (gL (.int s) (aN [r,.str "since"] rfl hs) rfl (de (ds:=(cr M [o] b s).map aY) (aN [.lst (M.map aY),.lst ([o].map .str),.str b,.int s] (cw rfl (aI (b:=true) (aN [.str o] (aI (aN [r,.str "office"] rfl T) rfl) (jf _ (by simp))) (aI (aN [r,.str "by"] rfl hb) rfl))) (yZ M O [o] b s)) (j8 _) (ax ?_)));refine fB (x:=.lst ((cr M [o] b s).map aY)) (y:=.lst [aY ⟨o,p,s,none,n⟩]) (b1:=false) (b2:=true) rfl (aN [aY ⟨o,p,s,none,n⟩] (aI (aN [r,.int s,.int n] rfl (K0 T hp s n)) rfl) (jf _ (by simp))) ?_;rw[uW];exact if_pos (dR (by rw[vI,length_singleton];lia))
noncomputable def za (hk:List LK)(hv:LD)(o p:Str):Option Str:=match cu hk hv [.inr o,.inr p] with
 |some (.str h)=>some h
 |_=>none
def eD (K:KL)(hk:List LK)(hv:LD)(p:Str)(day:Int)(n:Nat)(o:Str):List Cl:=match za hk hv o p with
 |some h=>if rY K h day=true then [⟨o,h,day,none,n⟩]else []
 |none=>[]
def dA (M:List Cl)(p:Str)(day:Int):LS:=lD (iZ ((M.filter λc=>decide (c.p=p) && iA c day).map (·.o)))
def rZ (K:KL)(M:List Cl)(hk:List LK)(hv:LD)(p:Str)(day:Int)(n:Nat):List Cl:=(dA M p day).flatMap (eD K hk hv p day n)
theorem mh (K:KL)(hk:List LK)(hv:LD)(p:Str)(day:Int)(n:Nat)(o:Str):(eD K hk hv p day n o).length<=1:=by
 unfold eD;split
 ·split<;>simp
 ·simp
theorem sd {α M:Type}(f:α->List M)(h:∀a,(f a).length<=1):∀l:List α,(l.flatMap f).length<=l.length
 |[]=>vT _
 |a::l=>by
  rw[uO,uZ,vE];have:=h a;have:=sd f h l;lia
theorem zb (M:List Cl)(p:Str)(day:Int):(dA M p day).length<=M.length:=by
 unfold dA;rw[(ge _).length_eq];refine vR (qk _) ?_;rw[vI];exact vM _ _
theorem wZ (g:gG ab)(aa:Int)(M:List Cl)(I:M.length<=60)(hk:List LK)(hv:LD)(r:∀v∈hv,∃s,v=.str s)(hx:x∈ak ab aa)(e:x.1=row a ("death" : Str) [.int d,.str p]):
  kF [.tup ab,.int aa,.lst (M.map aY),.dt hk hv,.int x.2]=lT ((rZ (ak ab aa) M hk hv p d x.2).map aY):=by
 have ha:=(dF g hx).1;have t:aq [x.1,.str "person"]=sS p:=by rw[e];exact bz (i:=1) dq rfl
 have u:aV [x.1]=sI d:=by rw[e];exact j7 (.inl (by decide +kernel)) rfl
 have J:=zb M p d;have w:∀(o:Str)(l:List Cl)(v9:OB),l.length<=60->gT [sT ab,sI aa,sL (M.map aY),sF (.dt hk hv),sI x.2,sS p,sI d,lT (l.map aY),sS o,v9]=some (.nx [sT ab,sI aa,sL (M.map aY),sF (.dt hk hv),sI x.2,sS p,sI d,lT ((l++eD (ak ab aa) hk hv p d x.2 o).map aY),sS o,some ((cu hk hv [.inr o,.inr p]).getD .non,false)]):=λo l v9 hl=>by
  have f:F3 (ai 3) (fV 8 (fV 5 aj)) [sT ab,sI aa,sL (M.map aY),sF (.dt hk hv),sI x.2,sS p,sI d,lT (l.map aY),sS o,v9]=some ((cu hk hv [.inr o,.inr p]).getD .non,false):=by
   simp[iP,sizeLine]
  cases O:cu hk hv [.inr o,.inr p] with
  |none=>
   rw[O]at f;have ei:eD (ak ab aa) hk hv p d x.2 o=[]:=by unfold eD za;rw[O]
   rw[ei,uQ];exact gL .non f rfl (nM (fw (p:=false) (q:=false) (cY (by simp)) (by simp)) rfl)
  |some v=>
   obtain⟨h,rfl⟩:=r v (rV O);rw[O]at f;have m:=yV ab g.rp g.le aa h d;rw[Jf]at m;have U:∀ρ:DL.Env,ρ[0]? = some (sT ab)->ρ[1]? = some (sI aa)->ρ[6]? = some (sI d)->ρ[9]? = some (sS h)->fF (bw (f2 lN (ai 9) (fC .non))) (bw (fA mD (fV 0 (fV 1 (fV 9 (fV 6 aj)))))) ρ=some (true && rY (ak ab aa) h d):=λρ y z k n=>
    fw (cY (by simp[n])) λ_=>cY (aN [.tup ab,.int aa,.str h,.int d] (by simp[y,z,k,n]) m)
   cases T:rY (ak ab aa) h d with
   |false=>
    have ei:eD (ak ab aa) hk hv p d x.2 o=[]:=by unfold eD za;rw[O];dsimp only;rw[T];rfl
    rw[ei,uQ];exact gL (.str h) f rfl (nM (by rw[U _ rfl rfl rfl rfl,T];rfl) rfl)
   |true=>
    have ei:eD (ak ab aa) hk hv p d x.2 o=[⟨o,h,d,none,x.2⟩]:=by unfold eD za;rw[O];dsimp only;rw[T];rfl
    rw[ei,uW];exact gL (.str h) f rfl (lU (by rw[U _ rfl rfl rfl rfl,T];rfl) (jL (ds:=l.map aY) (d:=aY ⟨o,h,d,none,x.2⟩) (b:=false) rfl (aN [.str o,.str h,.int d,.non,.int x.2] rfl (cI _ (by simp))) rfl (bY (by simp;lia))))
 obtain⟨ρ',A,v8,v9,rfl⟩:=jy (tg:=dj 8) (g:=gT) (λj ρ=>∃v8 v9:OB,ρ=[sT ab,sI aa,sL (M.map aY),sF (.dt hk hv),sI x.2,sS p,sI d,lT ((((dA M p d).take j).flatMap (eD (ak ab aa) hk hv p d x.2)).map aY),v8,v9]) ((dA M p d).map .str)
  [sT ab,sI aa,sL (M.map aY),sF (.dt hk hv),sI x.2,sS p,sI d,lT [],none,none] ⟨none,none,rfl⟩ (by
   rintro j dd ρ hd ⟨v8,v9,rfl⟩;rw[vA]at hd;obtain⟨o,B,rfl⟩:=oY hd;have hl:(((dA M p d).take j).flatMap (eD (ak ab aa) hk hv p d x.2)).length<=60:=vR (sd _ (mh _ _ _ _ _ _) _) (by rw[length_take];lia);refine⟨_,_,rfl,.inl (w o _ v9 hl),sS o,some ((cu hk hv [.inr o,.inr p]).getD .non,false),?_⟩;rw[take_add_one,B,toList_some,flatMap_append,uO,flatMap_nil,uQ])
 have C:jo (dj 8) gT ((dA M p d).map .str) [sT ab,sI aa,sL (M.map aY),sF (.dt hk hv),sI x.2,sS p,sI d,lT [],none,none]=some (.nx [sT ab,sI aa,sL (M.map aY),sF (.dt hk hv),sI x.2,sS p,sI d,lT ((rZ (ak ab aa) M hk hv p d x.2).map aY),v8,v9]):=by
  rw[A];have:(dA M p d).take ((dA M p d).map D.str).length=dA M p d:=by rw[vI,take_length]
  rw[this];rfl
 have E:∀ρ:DL.Env,ρ[2]? = some (sL (M.map aY))->ρ[5]? = some (sS p)->ρ[6]? = some (sI d)->cn (f1 gA (bN (cn (ai 2)) 1 [5,6] (dj 0) (fF (bw (f2 eV (dE 0 1) (ai 1))) (bw (fA cU (fV 0 (fV 2 aj))))) (dE 0 0))) ρ=some ((dA M p d).map .str):=λρ F G k=>by
  have hc:=fX (fi:=cn (ai 2)) (nT:=1) (cap:=[5,6]) (tg:=dj 0) (c:=fF (bw (f2 eV (dE 0 1) (ai 1))) (bw (fA cU (fV 0 (fV 2 aj))))) (fe:=dE 0 0) (ρ:=ρ) M aY (λc=>decide (c.p=p) && iA c d) (λc=>.str c.o) (by simp[F]) (by lia) λc hc=>
   ⟨_,rfl,fw (cY (bC (.str c.p) (.str p) (bC (aY c) (.int 1) (by simp[dn]) rfl (NA c)) (by simp[dn,G]) (by simp))) λ_=>cY (aN [aY c,.int d] (by simp[dn,k]) (rN c d)),λ_=>⟨false,bC (aY c) (.int 0) (by simp[dn]) rfl (Pq c)⟩⟩
  have e2:(M.filter λc=>decide (c.p=p) && iA c d).map (λc=>D.str c.o)=((M.filter λc=>decide (c.p=p) && iA c d).map (·.o)).map .str:=by rw[uP];rfl
  rw[e2]at hc;show(f1 gA _ ρ).bind _=_;unfold f1;rw[hc,vJ];have H:((M.filter λc=>decide (c.p=p) && iA c d).map (·.o)).length<64:=by rw[vI];exact lt_of_le_of_lt (vM _ _) (by lia)
  show((iO _).bind _).bind _=_;rw[rT,vJ,if_pos H];rfl
 refine av rfl (gL (.str p) (aN [x.1,.str "person"] (by simp[ha]) t) rfl (gL (.int d) (aN [x.1] (by simp[ha]) u) rfl (de (ds:=[]) (by simp[sizeLine]) rfl (eM (ρ':=[sT ab,sI aa,sL (M.map aY),sF (.dt hk hv),sI x.2,sS p,sI d,lT ((rZ (ak ab aa) M hk hv p d x.2).map aY),v8,v9]) ?_ (pF rfl)))));exact mC (ρ:=[sT ab,sI aa,sL (M.map aY),sF (.dt hk hv),sI x.2,sS p,sI d,lT [],none,none]) (E _ rfl rfl rfl) C
theorem Gf (g:gG ab)(aa:Int)(M:List Cl)(O:M.length<=60)(hk:List LK)(hv:LD)(b:∀v∈hv,∃s,v=.str s)(hx:x∈ak ab aa)(e:x.1=row a ("death" : Str) [.int d,.str p]):
  jb [.tup ab,.int aa,.lst (M.map aY),.dt hk hv,.int x.2]=lT ((cr M (M.map Cl.o) p d++rZ (ak ab aa) M hk hv p d x.2).map aY):=by
 have ha:=(dF g hx).1;have T:aq [x.1,.str "person"]=sS p:=by rw[e];exact bz (i:=1) dq rfl
 have U:aV [x.1]=sI d:=by rw[e];exact j7 (.inl (by decide +kernel)) rfl
 have h1:=kB (fi:=cn (ai 2)) (nT:=1) (cap:=[]) (tg:=dj 0) (fe:=dE 0 0) (ρ:=[sT ab,sI aa,sL (M.map aY),sF (.dt hk hv),sI x.2,none,none]) M aY (λc=>.str c.o) (by simp) (by lia) λc hc=>⟨_,rfl,false,bC (aY c) (.int 0) (by simp[dn]) rfl (Pq c)⟩;have e2:M.map (λc=>D.str c.o)=(M.map Cl.o).map .str:=by rw[uP];rfl
 rw[e2]at h1;have f:=gp (M.map Cl.o) p d M;have h:(rZ (ak ab aa) M hk hv p d x.2).length<=60:=vR (sd _ (mh _ _ _ _ _ _) _) (vR (zb M p d) O);refine av rfl (de (ds:=(M.map Cl.o).map .str) h1 (eA _) (de (ds:=(cr M (M.map Cl.o) p d).map aY) (aN [.lst (M.map aY),.lst ((M.map Cl.o).map .str),.str p,.int d] (cw rfl (cw rfl (cw (aN [x.1,.str "person"] (by simp[ha]) T) (cw (aN [x.1] (by simp[ha]) U) rfl)))) (yZ M O _ p d)) (j8 _) (ax ?_)));refine fB (x:=.lst ((cr M (M.map Cl.o) p d).map aY)) (y:=.lst ((rZ (ak ab aa) M hk hv p d x.2).map aY)) (b1:=false) (b2:=true) rfl (aN [.tup ab,.int aa,.lst (M.map aY),.dt hk hv,.int x.2] rfl (wZ g aa M O hk hv b hx e)) ?_;rw[uW];exact if_pos (dR (by rw[vI,vI];lia))
abbrev NC:=List Cl×List LK×LD
def fj (K:KL)(st:NC)(x:D×Nat):NC :=
 if cQ K st.1 x=true then
  if kindOf x.1 = "named" then (st.1++[⟨az 1 x.1,az 2 x.1,aG x.1,none,x.2⟩],st.2)
  else if kindOf x.1 = "chosen" then (cr st.1 [az 2 x.1] (az 1 x.1) (fY 4 x.1)++[⟨az 2 x.1,az 3 x.1,fY 4 x.1,none,x.2⟩],st.2)
  else if kindOf x.1 = "heir" then (st.1,dL st.2.1 [.inr (az 2 x.1),.inr (az 1 x.1)],dM st.2.1 st.2.2 [.inr (az 2 x.1),.inr (az 1 x.1)] (.str (az 3 x.1)))
  else (cr st.1 (st.1.map Cl.o) (az 1 x.1) (aG x.1)++rZ K st.1 st.2.1 st.2.2 (az 1 x.1) (aG x.1) x.2,st.2)
 else st
def c8 (K:KL):KL:=eJ (λx=>cM (kA x)) (K.filter λx=>!bi x.1)
noncomputable def mQ (K:KL)(l:KL):NC:=l.foldl (fj K) ([],[],[])
noncomputable def kC (c:Cl):List At:=[.s c.o,.i c.s,.i c.n]
def bp (K:KL):List Cl:=eJ (λc=>cM (kC c)) (mQ K (c8 K)).1
noncomputable def A0:LK->Str
 |[_,.inr p]=>p
 |_=>("" : Str)
noncomputable def Jh (dd:LS)(ks:List LK):Nat:=(ks.filter λk=>decide (A0 k∉dd)).length
structure z6 (K l:KL)(dd:List Str)(st:NC):Prop where
 len:st.1.length+Jh dd st.2.1<=l.length
 ded:∀q∈dd,∃y∈l,iD K q (aG y.1) y.2=true
 nod:(st.1.map λc=>(c.o,c.n)).Nodup
 num:∀c∈st.1,c.n∈l.map (·.2)
 hs:∀v∈st.2.2,∃s,v=D.str s
 hk:st.2.1.length<=l.length
theorem BV (h:told M p d r=true):aG r<=d/\∀d',aG r<=d'->told M p d' r=true:=by
 unfold told at h;split at h
 ·rename_i k aH;rw[vC]at h;obtain⟨h1,h2⟩:=h;unfold u0 at h2;split at h2
  ·rename_i dd q;rw[vC]at h2;refine⟨DQ h2.2,λd' hd=>?_⟩;unfold told;rw[vC];refine⟨h1,?_⟩;unfold u0;rw[vC];exact⟨h2.1,xq hd⟩
  ·cases h2
 ·cases h
theorem se:∀(r:KL)(b:D×Nat),px b r∈b::r/\∀y∈b::r,bQ y (px b r)=false
 |[],b=>⟨by simp[px],λy hy=>by rw[uT hy];simp[px,bQ]⟩
 |x::r,b=>by
  rw[px,wP];by_cases h:bQ x b=true
  ·rw[if_pos (by rw[h])];obtain⟨h1,h2⟩:=se r x;refine⟨mZ _ h1,λy hy=>?_⟩;rcases vP hy with rfl|hy
   ·have:=h2 x mX;unfold bQ at *;simp at *;lia
   ·exact h2 y hy
  ·rw[if_neg (by simpa using h)];obtain⟨h1,h2⟩:=se r b;refine⟨?_,λy hy=>?_⟩
   ·rcases vP h1 with e|e
    ·rw[e];exact mX
    ·exact mZ _ (mZ _ e)
   ·rcases vP hy with rfl|hy
    ·exact h2 _ mX
    ·rcases vP hy with rfl|hy
     ·have:=h2 b mX;unfold bQ at *;simp at *;lia
     ·exact h2 y (mZ _ hy)
theorem sf (h:iD K p d i=true):∃m∈K,told eC p d m.1=true/\m.2=i/\∀y∈K,told eC p d y.1=true->bQ y m=false:=by
 unfold iD at h;split at h
 ·cases h
 ·rename_i b r e;obtain⟨h1,h2⟩:=se r b;rw[<-e]at h1 h2;obtain⟨h3,h4⟩:=vN h1;exact⟨_,h3,h4,DQ h,λy hy M=>h2 y (mem_filter.mpr ⟨hy,M⟩)⟩
theorem A1 (h1:iD K p d1 i1=true)(h2:iD K p d2 i2=true):i1=i2:=by
 obtain⟨T,k1,e,g,a⟩:=sf h1;obtain⟨U,k2,f,e2,b⟩:=sf h2;have c:=BV e;have d:=BV f;by_cases hd:d1<=d2
 ·have M:=b T k1 (c.2 d2 (by lia));have hm:aG U.1<=aG T.1:=by unfold bQ at M;simp at M;lia
  have O:=a U k2 (d.2 d1 (by lia));unfold bQ at M O;simp at M O;lia
 ·have M:=a U k2 (d.2 d1 (by lia));have hm:aG T.1<=aG U.1:=by unfold bQ at M;simp at M;lia
  have O:=b T k1 (c.2 d2 (by lia));unfold bQ at M O;simp at M O;lia
theorem zc {κ:Type}[DecidableEq κ]:∀ {ks:List κ}{vs:LD}{k:κ}{v:D},cu ks vs k=some v->k∈ks
 |k'::ks,d::ds,k,v,h=>by
  unfold cu at h;split at h
  ·rename_i e;rw[<-e];exact mX
  ·exact mZ _ (zc h)
 |[],_,_,_,h=>by simp[cu]at h
 |_::_,[],_,_,h=>by simp[cu]at h
theorem sg (p:Str)(dd:LS)(hp:p∉dd):∀ks:List LK,Jh dd ks=Jh (p::dd) ks+(ks.filter λk=>decide (A0 k=p)).length
 |[]=>rfl
 |k::ks=>by
  have M:=sg p dd hp ks;unfold Jh at M |-;by_cases e:A0 k=p
  ·rw[filter_cons_of_pos (by simpa [e]using hp),filter_cons_of_neg (by simp[e]),filter_cons_of_pos (by simp[e]),vE,vE];lia
  ·by_cases h:A0 k∈dd
   ·rw[filter_cons_of_neg (by simp[h]),filter_cons_of_neg (by simp[h]),filter_cons_of_neg (by simp[e])];exact M
   ·rw[filter_cons_of_pos (by simp[h]),filter_cons_of_pos (by simp[h,e]),filter_cons_of_neg (by simp[e]),vE,vE];lia
theorem ln (M:LS)(p:Str)(day:Int):∀O:List Cl,((cr O M p day).map λc=>(c.o,c.n)).Sublist (O.map λc=>(c.o,c.n))
 |[]=>List.Sublist.slnil
 |c::O=>by
  have T:=ln M p day O;unfold cr at T |-;rw[uO,uW,uY];have:((gn M p day c).map λc=>(c.o,c.n))=[(c.o,c.n)]\/((gn M p day c).map λc=>(c.o,c.n))=[]:=by
   unfold gn;split
   ·exact .inl rfl
   ·split
    ·exact .inl rfl
    ·exact .inr rfl
  rcases this with h|h
  ·rw[h];exact T.cons₂ _
  ·rw[h];exact T.cons _
theorem lq (h:c∈cr T O p day):∃M∈T,M.o=c.o/\M.n=c.n:=by
 have:=(ln O p day T).subset (uS ⟨c,h,rfl⟩);obtain⟨M,h1,h2⟩:=vO this;injection h2 with h3 h4;exact⟨M,h1,h3,h4⟩
theorem j9:∀(M O:LS),O.Nodup->(M.foldl jX O).Nodup
 |[],_,h=>h
 |s::M,O,h=>j9 M _ (Ad h s)
theorem si (M:List Cl)(p:Str)(day:Int):(dA M p day).Nodup:=(ge _).nodup_iff.mpr (j9 _ [] nodup_nil)
theorem zd (K:KL)(hk:List LK)(hv:LD)(p:Str)(day:Int)(n:Nat):∀os:LS,((os.flatMap (eD K hk hv p day n)).map λc=>(c.o,c.n)).Sublist (os.map λo=>(o,n))
 |[]=>List.Sublist.slnil
 |o::os=>by
  have M:=zd K hk hv p day n os;rw[uO,uW,uY];have:((eD K hk hv p day n o).map λc=>(c.o,c.n))=[(o,n)]\/((eD K hk hv p day n o).map λc=>(c.o,c.n))=[]:=by
   unfold eD;split
   ·split
    ·exact .inl rfl
    ·exact .inr rfl
   ·exact .inr rfl
  rcases this with h|h
  ·rw[h];exact M.cons₂ _
  ·rw[h];exact M.cons _
theorem uB {α:Type}[DecidableEq α]:∀(l m:List α),l.Nodup->(∀x∈l,x∈m)->l.length<=m.length
 |[],_,_,_=>uN _
 |x::l,m,h,s=>by
  rw[nodup_cons]at h;have hx:=s x mX;have:=uB l (m.erase x) h.2 λy hy=>(List.mem_erase_of_ne (a:=y) (b:=x) (λe=>h.1 (by rw[<-e];exact hy))).mpr (s y (mZ _ hy));rw[List.length_erase_of_mem hx]at this;have:0<m.length:=List.length_pos_of_mem hx;rw[vE];lia
theorem uC {α M:Type}(f:α->List M)(q:α->Bool)(h:∀a,(f a).length<=1/\(q a=false->f a=[])):∀l:List α,(l.flatMap f).length<=(l.filter q).length
 |[]=>vT _
 |a::l=>by
  have O:=uC f q h l;rw[uO,uZ];cases hq:q a with
  |true=>rw[filter_cons_of_pos hq,vE];have:=(h a).1;lia
  |false=>rw[filter_cons_of_neg (by rw[hq];decide),(h a).2 hq];simpa using O
theorem Ji (K:KL)(M:List Cl)(hk:List LK)(hv:LD)(p:Str)(day:Int)(n:Nat):(rZ K M hk hv p day n).length<=(hk.filter λk=>decide (A0 k=p)).length:=by
 refine vR (uC _ (λo=>(cu hk hv [.inr o,.inr p]).isSome) (λo=>⟨mh _ _ _ _ _ _ _,λh=>?_⟩) _) ?_
 ·have hl:cu hk hv [.inr o,.inr p]=none:=by simpa using h
  unfold eD za;rw[hl]
 ·have O:(((dA M p day).filter λo=>(cu hk hv [.inr o,.inr p]).isSome).map λo=>([.inr o,.inr p]:LK)).Nodup:=List.Pairwise.map _ (λa b T e=>T (by injection e with e _;injection e)) ((si M p day).filter _);have:=uB _ (hk.filter λk=>decide (A0 k=p)) O λk hm=>by
   obtain⟨o,U,rfl⟩:=vO hm;obtain⟨v,hv⟩:=uU (vN U).2;exact mem_filter.mpr ⟨zc hv,xq rfl⟩
  rwa [vI]at this
theorem z6.step {K l:KL}{dd:LS}{st:NC}(h:z6 K l dd st){x:D×Nat}(hx:x.2∉l.map (·.2)):∃m,z6 K (l++[x]) m (fj K st x):=by
 have up:∀ {n:Nat},n∈l.map (·.2)->n∈(l++[x]).map (·.2):=λh=>by rw[uW];exact mem_append_left _ h
 have d:x.2∈(l++[x]).map (·.2):=by simp
 have U:(l++[x]).length=l.length+1:=by simp
 have O:∀q∈dd,∃y∈l++[x],iD K q (aG y.1) y.2=true:=λq hq=>by
  obtain⟨y,h1,h2⟩:=h.ded q hq;exact⟨y,mem_append_left _ h1,h2⟩
 have f:z6 K (l++[x]) dd st:=⟨by have:=h.len;lia,O,h.nod,λc hc=>up (h.num c hc),h.hs,by have:=h.hk;lia⟩;have t:=h.len;unfold fj;split
 ·rename_i M;split
  ·refine⟨dd,by simp;lia,O,?_,λc hc=>?_,h.hs,by rw[U];exact le_succ_of_le h.hk⟩
   ·rw[uW,nodup_append];refine⟨h.nod,by simp,λa ha b hb e=>?_⟩;obtain⟨c,hc,rfl⟩:=vO ha;simp at hb;subst hb;injection e with _ e2;exact hx (e2 ▸ h.num c hc)
   ·rcases mem_append.mp hc with hc|hc
    ·exact up (h.num c hc)
    ·rw[uT hc];exact d
  ·split
   ·have hl:=gp [az 2 x.1] (az 1 x.1) (fY 4 x.1) st.1;refine⟨dd,by simp;lia,O,?_,λc hc=>?_,h.hs,by rw[U];exact le_succ_of_le h.hk⟩
    ·rw[uW,nodup_append];refine⟨h.nod.sublist (ln _ _ _ _),by simp,λa ha b hb e=>?_⟩;obtain⟨c,hc,rfl⟩:=vO ha;simp at hb;subst hb;injection e with _ e2;obtain⟨T,h1,_,h3⟩:=lq hc;exact hx (e2 ▸ h3 ▸ h.num T h1)
    ·rcases mem_append.mp hc with hc|hc
     ·obtain⟨T,h1,_,h3⟩:=lq hc;rw[<-h3];exact up (h.num T h1)
     ·rw[uT hc];exact d
   ·split
    ·have hp:∀k:LK,Jh dd (dL st.2.1 k)<=Jh dd st.2.1+1/\(dL st.2.1 k).length<=st.2.1.length+1:=λk=>by
      unfold dL;split
      ·lia
      ·have:([k].filter λk=>decide (A0 k∉dd)).length<=1:=vM _ _;unfold Jh;rw[filter_append,uZ,uZ,length_singleton];lia
     refine⟨dd,?_,O,f.nod,f.num,λv hv=>?_,?_⟩
     ·have:=(hp [.inr (az 2 x.1),.inr (az 1 x.1)]).1;rw[U];show st.1.length+Jh dd (dL st.2.1 [.inr (az 2 x.1),.inr (az 1 x.1)])<=_;lia
     ·rcases u6 hv with hv|hv
      ·exact⟨_,hv⟩
      ·exact h.hs v hv
     ·have:=(hp [.inr (az 2 x.1),.inr (az 1 x.1)]).2;have:=h.hk;rw[U];show(dL _ _).length<=_;lia
    ·rename_i n1 n2 n3;have hd:kindOf x.1 = "death":=by
      unfold cQ at M;by_cases hd:kindOf x.1 = "death"
      ·exact hd
      ·rw[if_neg hd,if_neg (by simp[wW,n1,n2,n3])]at M;cases M
     have hf:iD K (az 1 x.1) (aG x.1) x.2=true:=by unfold cQ at M;rwa [if_pos hd]at M
     have p:az 1 x.1∉dd:=λhm=>by
      obtain⟨y,h1,h2⟩:=h.ded _ hm;exact hx (by rw[<-A1 h2 hf];exact uS ⟨y,h1,rfl⟩)
     have hl:=gp (st.1.map Cl.o) (az 1 x.1) (aG x.1) st.1;have u:=Ji K st.1 st.2.1 st.2.2 (az 1 x.1) (aG x.1) x.2;have w:=sg (az 1 x.1) dd p st.2.1;have i:=zd K st.2.1 st.2.2 (az 1 x.1) (aG x.1) x.2 (dA st.1 (az 1 x.1) (aG x.1));have j:∀c∈rZ K st.1 st.2.1 st.2.2 (az 1 x.1) (aG x.1) x.2,c.o∈dA st.1 (az 1 x.1) (aG x.1)/\c.n=x.2:=λc hc=>by
      have:=i.subset (uS ⟨c,hc,rfl⟩);obtain⟨o,h1,h2⟩:=vO this;injection h2 with h3 h4;exact⟨h3 ▸ h1,h4.symm⟩
     refine⟨az 1 x.1::dd,?_,λq hq=>?_,?_,λc hc=>?_,h.hs,by rw[U];exact le_succ_of_le h.hk⟩
     ·rw[U];show(cr st.1 (st.1.map Cl.o) (az 1 x.1) (aG x.1)++rZ K st.1 st.2.1 st.2.2 (az 1 x.1) (aG x.1) x.2).length+Jh _ st.2.1<=_;rw[uZ];lia
     ·rcases vP hq with rfl|hq
      ·exact⟨x,by simp,hf⟩
      ·exact O q hq
     ·rw[uW,nodup_append];refine⟨h.nod.sublist (ln _ _ _ _),List.Nodup.sublist i (List.Pairwise.map _ (λa b g e=>g (by injection e)) (si _ _ _)),λa ha b hb e=>?_⟩;obtain⟨c,hc,rfl⟩:=vO ha;obtain⟨r,s,rfl⟩:=vO hb;injection e with _ e2;obtain⟨T,h1,_,h3⟩:=lq hc;exact hx ((j r s).2 ▸ e2 ▸ h3 ▸ h.num T h1)
     ·rcases mem_append.mp hc with hc|hc
      ·obtain⟨T,h1,_,h3⟩:=lq hc;rw[<-h3];exact up (h.num T h1)
      ·rw[(j c hc).2];exact d
 ·exact⟨dd,f⟩
theorem Jj (e:ρ[i]? = some (some (.dt ks vs,true)))(M:T ρ=some (d,b))(ek:U ρ=some kd)(hk:iP kd=some O)(hf:bB d=true)(h1:ks.length<=1000)(h2:kd.length<=1000):um i U T ρ=some (.nx (ρ.set i (some (.dt (dL ks O) (dM ks vs O d),true)))):=by
 unfold um;rw[e];dsimp only;rw[M,vJ,ek,vJ,hk,vJ,if_pos ⟨hf,bY (by lia),dR (by lia)⟩]
theorem So (a b:Cl):(bq (kC a) (kC b)).isSome=true:=by
 unfold kC;rw[bq];split
 ·rw[bq];split
  ·rw[bq];split
   ·rw[bq];rfl
   ·rfl
  ·rfl
 ·rfl
theorem BW (cs:List Cl):eK (cs.map kC)=true:=by
 unfold eK;simp[all_eq_true,So]
theorem uE {α T:Type}(f:α->T):∀ {l:List α},(l.map f).Nodup->∀ {a b:α},a∈l->b∈l->f a=f b->a=b
 |[],_,_,_,ha,_,_=>by cases ha
 |c::l,h,a,b,ha,hb,e=>by
  rw[uY,nodup_cons]at h;rcases vP ha with O|ha1
  ·rcases vP hb with M|hb1
   ·rw[O,M]
   ·exact absurd (uS ⟨b,hb1,by rw[<-e,O]⟩) h.1
  ·rcases vP hb with M|hb1
   ·exact absurd (uS ⟨a,ha1,by rw[e,M]⟩) h.1
   ·exact uE f h.2 ha1 hb1 e
theorem Gg {cs:List Cl}{a b:Cl}(ha:a∈cs)(hb:b∈cs)(e:cM (kC a)=cM (kC b)):(a.o,a.n)=(b.o,b.n):=by
 have h:=nI (BW cs) (uS ⟨a,ha,rfl⟩) (uS ⟨b,hb,rfl⟩) e;unfold kC at h;injection h with h1 h2;injection h1 with h1;injection h2 with _ h3;injection h3 with h3 _;injection h3 with h3;rw[h1,show a.n=b.n by lia]
theorem Jk (g:gG ab)(aa:Int)(h:z6 (ak ab aa) l dd st)(hj:l.length<=60)(hx:x∈ak ab aa)(f:bi x.1=false)(j:OB):
  ∃m,(lh [sT ab,sI aa,lT (st.1.map aY),some (.dt st.2.1 st.2.2,true),sI x.2,j]=some (.nx [sT ab,sI aa,lT ((fj (ak ab aa) st x).1.map aY),some (.dt (fj (ak ab aa) st x).2.1 (fj (ak ab aa) st x).2.2,true),sI x.2,m])
   \/ lh [sT ab,sI aa,lT (st.1.map aY),some (.dt st.2.1 st.2.2,true),sI x.2,j]=some (.ct [sT ab,sI aa,lT ((fj (ak ab aa) st x).1.map aY),some (.dt (fj (ak ab aa) st x).2.1 (fj (ak ab aa) st x).2.2,true),sI x.2,m])):=by
 obtain⟨ha,U⟩:=dF g hx;have c:st.1.length<=60:=by have:=h.len;lia
 have hf:bB x.1=true:=U.rp.flat;have n:=D4 g aa st.1 c hx f;have O:eX (bw (fA mF (fV 0 (fV 1 (fV 2 (fV 4 aj)))))) [sT ab,sI aa,lT (st.1.map aY),some (.dt st.2.1 st.2.2,true),sI x.2,some (x.1,false)]=some (!cQ (ak ab aa) st.1 x) :=
  bX (cY (aN [.tup ab,.int aa,.lst (st.1.map aY),.int x.2] (by simp) n))
 have hw:fA aO (fV 5 aj) [sT ab,sI aa,lT (st.1.map aY),some (.dt st.2.1 st.2.2,true),sI x.2,some (x.1,false)]=sS (kindOf x.1):=aN [x.1] rfl (je U);refine⟨some (x.1,false),?_⟩;cases hc:cQ (ak ab aa) st.1 x with
 |false=>
  rw[hc]at O;have es:fj (ak ab aa) st x=st:=by unfold fj;rw[hc];rfl
  rw[es];exact .inr (gL x.1 (by simp[ha]) hf (Si (lU O rfl)))
 |true=>
  rw[hc]at O;left;refine gL x.1 (by simp[ha]) hf (eM (nM O rfl) ?_);by_cases hn:kindOf x.1 = "named"
  ·have es:fj (ak ab aa) st x=(st.1++[⟨az 1 x.1,az 2 x.1,aG x.1,none,x.2⟩],st.2):=by unfold fj;rw[hc,if_pos rfl,if_pos hn]
   rw[es];refine lU (bT (bb:=false) hw (xq hn)) ?_;have T:aq [x.1,.str "office"]=sS (az 1 x.1)/\aq [x.1,.str "person"]=sS (az 2 x.1):=by
    obtain⟨a,k,aH,e,d⟩:=U;rw[e]at hn |-;replace hn:k = "named":=hn;cases d with
    |named d o p=>exact⟨bz (i:=1) dq rfl,bz (i:=2) dq rfl⟩
    |root=>exact cV hn
    |chosen=>exact cV hn
    |heir=>exact cV hn
    |three _ hk=>rcases hk with rfl|rfl|rfl<;>exact cV hn
    |other _ hk=>rcases hk with rfl|rfl|rfl|rfl|rfl<;>exact cV hn
   have q:aV [x.1]=sI (aG x.1):=by rw[rM U];unfold tq;rw[f];rfl
   have e2:f2 ca (ai 2) (fA bI (af (fA gE (fV 5 (af (fA aV (fV 5 aj)) (fV 4 aj)))) aj)) [sT ab,sI aa,lT (st.1.map aY),some (.dt st.2.1 st.2.2,true),sI x.2,some (x.1,false)]=lT (st.1.map aY++[aY ⟨az 1 x.1,az 2 x.1,aG x.1,none,x.2⟩]):=by
    refine fB (x:=.lst (st.1.map aY)) (y:=.lst [aY ⟨az 1 x.1,az 2 x.1,aG x.1,none,x.2⟩]) (b1:=false) (b2:=true) rfl ?_ (if_pos (dR (by rw[vI,length_singleton];lia)));exact aN [aY ⟨az 1 x.1,az 2 x.1,aG x.1,none,x.2⟩] (aI (aN [x.1,.int (aG x.1),.int x.2] (cw rfl (cw (aN [x.1] rfl q) rfl)) (K0 T.1 T.2 _ _)) rfl) (jf _ (by simp))
   have:=wK (i:=2) e2 (by have hq:=j8 (st.1++[(⟨az 1 x.1,az 2 x.1,aG x.1,none,x.2⟩:Cl)]);rwa [uW]at hq);rw[uW];exact this
  ·refine nM (bT (bb:=false) hw (DP hn)) ?_;by_cases M:kindOf x.1 = "chosen"
   ·have es:fj (ak ab aa) st x=(cr st.1 [az 2 x.1] (az 1 x.1) (fY 4 x.1)++[⟨az 2 x.1,az 3 x.1,fY 4 x.1,none,x.2⟩],st.2):=by unfold fj;rw[hc,if_pos rfl,if_neg hn,if_pos M]
    rw[es];refine lU (bT (bb:=false) hw (xq M)) (wK (i:=2) (aN [.lst (st.1.map aY),x.1,.int x.2] rfl ?_) (j8 _));obtain⟨a,k,aH,e,d⟩:=U;rw[e]at M |-;replace M:k = "chosen":=M;cases d with
    |chosen d b o p s=>exact D5 st.1 c x.2
    |root=>exact cV M
    |named=>exact cV M
    |heir=>exact cV M
    |three _ hk=>rcases hk with rfl|rfl|rfl<;>exact cV M
    |other _ hk=>rcases hk with rfl|rfl|rfl|rfl|rfl<;>exact cV M
   ·refine nM (bT (bb:=false) hw (DP M)) ?_;by_cases hh:kindOf x.1 = "heir"
    ·have es:fj (ak ab aa) st x=(st.1,dL st.2.1 [.inr (az 2 x.1),.inr (az 1 x.1)],dM st.2.1 st.2.2 [.inr (az 2 x.1),.inr (az 1 x.1)] (.str (az 3 x.1))):=by unfold fj;rw[hc,if_pos rfl,if_neg hn,if_neg M,if_pos hh]
     rw[es];have T:aq [x.1,.str "office"]=sS (az 2 x.1)/\aq [x.1,.str "by"]=sS (az 1 x.1)/\aq [x.1,.str "person"]=sS (az 3 x.1):=by
      obtain⟨a,k,aH,e,d⟩:=U;rw[e]at hh |-;replace hh:k = "heir":=hh;cases d with
      |heir d b o p=>exact⟨bz (i:=2) dq rfl,bz (i:=1) dq rfl,bz (i:=3) dq rfl⟩
      |root=>exact cV hh
      |named=>exact cV hh
      |chosen=>exact cV hh
      |three _ hk=>rcases hk with rfl|rfl|rfl<;>exact cV hh
      |other _ hk=>rcases hk with rfl|rfl|rfl|rfl|rfl<;>exact cV hh
     exact lU (bT (bb:=false) hw (xq hh)) (Jj (ks:=st.2.1) (vs:=st.2.2) (kd:=[.str (az 2 x.1),.str (az 1 x.1)]) (b:=false) rfl (aN [x.1,.str "person"] rfl T.2.2) (aI (aN [x.1,.str "office"] rfl T.1) (aI (aN [x.1,.str "by"] rfl T.2.1) rfl)) rfl rfl (by have:=h.hk;lia) (by simp))
    ·refine nM (bT (bb:=false) hw (DP hh)) ?_;have es:fj (ak ab aa) st x=(cr st.1 (st.1.map Cl.o) (az 1 x.1) (aG x.1)++rZ (ak ab aa) st.1 st.2.1 st.2.2 (az 1 x.1) (aG x.1) x.2,st.2):=by unfold fj;rw[hc,if_pos rfl,if_neg hn,if_neg M,if_neg hh]
     rw[es];have hd:kindOf x.1 = "death":=by
      unfold cQ at hc;by_cases hd:kindOf x.1 = "death"
      ·exact hd
      ·rw[if_neg hd,if_neg (by simp[wW,hn,M,hh])]at hc;cases hc
     refine wK (i:=2) (aN [.tup ab,.int aa,.lst (st.1.map aY),.dt st.2.1 st.2.2,.int x.2] (by simp) ?_) (j8 _);obtain⟨a,k,aH,e,d⟩:=U;have hk:k = "death":=by rw[e]at hd;exact hd
     subst hk;obtain⟨dd,p,rfl⟩:=d.deed.three (by decide +kernel);have:=Gf g aa st.1 c st.2.1 st.2.2 h.hs hx e;rw[this,e];rfl
theorem BX (K:KL):∀(l M:KL)(st:NC)(dd:LS),z6 K M dd st->((M++l).map (·.2)).Nodup->∃O,z6 K (M++l) O (l.foldl (fj K) st)
 |[],M,st,dd,h,_=>⟨dd,by rw[uQ];exact h⟩
 |x::l,M,st,dd,h,hn=>by
  have hx:x.2∉M.map (·.2):=λhm=>by
   rw[uW,nodup_append]at hn;exact hn.2.2 _ hm x.2 (by simp) rfl
  obtain⟨O,h'⟩:=h.step hx;have e:M++x::l=(M++[x])++l:=by simp
  rw[e]at hn |-;exact BX K l _ _ _ h' hn
theorem BY (K l:KL)(h:(l.map (·.2)).Nodup):∃dd,z6 K l dd (mQ K l):=by
 have:=BX K l [] ([],[],[]) [] ⟨uN _,by simp,by simp,by simp,by simp,uN _⟩ h;exact this
theorem lr (h:(K.map (·.2)).Nodup):((c8 K).map (·.2)).Nodup:=((aX _ _).map _).nodup_iff.mpr (List.Nodup.sublist (List.Sublist.map _ filter_sublist) h)
theorem nW {ab:LD}(g:gG ab)(aa:Int)(U:(c8 (ak ab aa)).length<=60):kG [.tup ab,.int aa]=lT ((bp (ak ab aa)).map aY)/\(bp (ak ab aa)).length<=60:=by
 have m:dS [.tup ab,.int aa]=lT ((c8 (ak ab aa)).map λx=>.int x.2):=oU g aa;generalize f:ak ab aa=K at U m |-;have t:∀x∈c8 K,x∈K/\bi x.1=false:=λx hx=>by
  obtain⟨h1,h2⟩:=vN ((aX _ _).mem_iff.mp hx);exact⟨h1,by simpa using h2⟩
 have q:((c8 K).map (·.2)).Nodup:=lr (by rw[<-f];exact dz ab aa);obtain⟨ρ',e,k,i,rfl⟩:=jy (tg:=dj 4) (g:=lh) (λj ρ=>∃k i:OB,ρ=[sT ab,sI aa,lT ((mQ K ((c8 K).take j)).1.map aY),some (.dt (mQ K ((c8 K).take j)).2.1 (mQ K ((c8 K).take j)).2.2,true),k,i]) ((c8 K).map λx=>.int x.2)
  [sT ab,sI aa,lT [],some (.dt [] [],true),none,none] ⟨none,none,rfl⟩ (by
   rintro j d ρ hd ⟨k,i,rfl⟩;rw[vA]at hd;obtain⟨x,hx,rfl⟩:=oY hd;have G:j<(c8 K).length:=(vV hx).1;have u:(c8 K).take (j+1)=(c8 K).take j++[x]:=by rw[take_add_one,hx];rfl
   have v:mQ K ((c8 K).take (j+1))=fj K (mQ K ((c8 K).take j)) x:=by rw[u];unfold mQ;rw[foldl_append];rfl
   obtain⟨w,z⟩:=t x (vL hx);obtain⟨dd,h⟩:=BY K ((c8 K).take j) (List.Nodup.sublist (List.Sublist.map _ (take_sublist _ _)) q);rw[<-f]at h;have M:=Jk g aa h (by rw[f,length_take];lia) (x:=x) (by rw[f];exact w) z i;rw[f]at M;obtain⟨A,M⟩:=M;exact⟨_,_,rfl,M,sI x.2,A,by rw[v]⟩)
 have B:(c8 K).take ((c8 K).map λx=>D.int x.2).length=c8 K:=by rw[vI,take_length]
 rw[B]at e;obtain⟨dd,O⟩:=BY K (c8 K) q;generalize C:(mQ K (c8 K))=st at e O;have E:st.1.length<=60:=by have:=O.len;lia
 have r:bp K=eJ (λc=>cM (kC c)) st.1:=by unfold bp;rw[C]
 have hm:∀ρ:DL.Env,ju (tm gB ρ) (st.1.map aY)=some (st.1.map λc=>.tup [.str c.o,.int c.s,.int c.n]):=λρ=>iz st.1 λc _=>by
  show(gB [aY c]).map _=_;rw[wS];rfl
 have hk:dJ (st.1.map λc=>D.tup [.str c.o,.int c.s,.int c.n])=some (st.1.map kC):=gY st.1 λc _=>rfl;have T:(st.1.map kC).length<64/\eK (st.1.map kC)=true/\fQ (st.1.map kC)=true/\((st.1.map kC).map cM).Nodup:=by
  refine⟨by rw[vI];lia,BW _,?_,?_⟩
  ·unfold fQ;rw[or_eq_true];right;simp[all_eq_true,kC]
  ·rw[uP];have h1:st.1.Pairwise λa b=>(a.o,a.n)≠(b.o,b.n):=pairwise_map.mp O.nod;have h2:st.1.Pairwise λa b=>cM (kC a)≠cM (kC b):=by
    refine List.Pairwise.imp_of_mem ?_ h1;intro a b ha hb F e;exact F (Gg ha hb e)
   exact pairwise_map.mpr h2
 have hz:(st.1.map kC).zip (st.1.map aY)=st.1.map λc=>(kC c,aY c):=by rw[zip_map']
 have l:((bp K).map λc=>(kC c,aY c))=eJ (λp:List At×D=>cM p.1) (st.1.map λc=>(kC c,aY c)):=by
  rw[r];refine k6 _ (λx hx y hy e=>?_) ((aX _ _).map _) ?_
  ·obtain⟨a,ha,rfl⟩:=vO hx;obtain⟨b,hb,rfl⟩:=vO hy;rw[uE (λc:Cl=>(c.o,c.n)) O.nod ha hb (Gg ha hb e)]
  ·exact pairwise_map.mpr (gf _ _)
 refine⟨av rfl (de (ds:=[]) (by simp[sizeLine]) rfl (eM (ρ':=[sT ab,sI aa,lT [],some (.dt [] [],true),none,none]) rfl (eM (mC (ds:=(c8 K).map λx=>.int x.2) ?_ e) (ax ?_)))),by rw[r,(aX _ _).length_eq];exact E⟩
 ·show(fA dS (fV 0 (fV 1 aj)) _).bind _=_;rw[aN [.tup ab,.int aa] rfl m];rfl
 ·unfold qA;show((some (D.lst (st.1.map aY),false)).bind _)=_;simp only[vJ];rw[hm];simp only[vJ];rw[hk];simp only[vJ];rw[if_pos T];unfold jv;rw[hz,<-l,uP];rfl
end Lw
namespace Lw
open PySem PySem.Spec DL L2
theorem ze (ns:LI)(k:Nat)(x:Int):∃c:Int,(aF (aW 2 (f2 bO (f2 g7 (f2 ca (f2 ca (f2 bO (ai 2) (fI 2147483629)) (f2 g7 (fI 6151) (ai 1))) (fI 1)) (fI 48271)) (fI 2147483647)))
  (ba (f2 bO (f2 g7 (ai 2) (f2 ca (f2 ca (f2 bO (ai 2) (fI 65519)) (ai 1)) (fI 2))) (fI 2147483629)))) [sL (ns.map .int),sI k,sI x]=some (.rt (.int c) false)/\0<=c:=by
 obtain⟨y,hy⟩:∃y,((x % 2147483629+6151*k+1)*48271) % 2147483647=y:=⟨_,rfl⟩;have hb:0<=y/\y<2147483647:=by rw[<-hy];exact mod_lt (by decide)
 have hc : -18446744073709551616<y/\y<18446744073709551616:=by lia
 exact⟨(y*(y % 65519+k+2)) % 2147483629,gL (.int y) (by simp[hy]) rfl (ax (by simp[hc])),(mod_lt (by decide)).1⟩
theorem gV (ns:LI)(k:Nat):∃c:Int,df [.lst (ns.map .int),.int k]=sI c/\0<=c:=by
 by_cases h:ns.length=0
 ·have e:ns=[]:=List.length_eq_zero_iff.mp h;subst e;obtain⟨c,h1,h2⟩:=ze [] k 5;exact⟨c,av rfl (gL (.int 5) rfl rfl (aE (cY (by simp)) h1)),h2⟩
 ·have hm:=mod_lt (x:=(k:Int)) (m:=ns.length) (by lia);obtain⟨c,h1,h2⟩:=ze ns k (ns.getD ((k:Int) % ns.length).toNat 0);refine⟨c,av rfl (gL (.int 5) rfl rfl (eM (lU (cY (by simp;lia)) (qR (d:=.int (ns.getD ((k:Int) % ns.length).toNat 0)) (b:=false) ?_ rfl)) h1)),h2⟩;refine bC (.lst (ns.map .int)) (.int ((k:Int) % ns.length)) rfl ?_ (BA hm.1 (by lia));refine bC (.int k) (.int ns.length) rfl (by simp) ?_;have M:¬ns=[]:=λe=>h (by rw[e];rfl);simp[bO,M]
theorem Gh {ρ:DL.Env}{i n:Nat}{ds:LD}{M O:FE}{d:D}{b b':Bool}(e:ρ[i]? = some (lT ds))(T:O ρ=some (d,b))(ek:M ρ=some (.int n,b'))(hn:n<ds.length)(hf:bB d=true):Aa i M O ρ=some (.nx (ρ.set i (lT (ds.set n d)))):=by
 have hx:CC ds.length (n:Int)=some n:=by
  unfold CC;rw[if_pos (by lia)];simp[hn]
 simp only[Aa,e,T,ek,vJ,hx,if_pos hf]
theorem BZ:∀(zs:LS),(∀z∈zs,z.length=1)->(zs.map (·.length)).sum=zs.length
 |[],_=>rfl
 |z::zs,h=>by
  rw[uY,sum_cons,BZ zs λy hy=>h y (mZ _ hy),h z mX,vE];lia
theorem Ca (x:Int):0<=x % 26/\x % 26<26:=mod_lt (by decide)
noncomputable def sj:PySem.Str:="abcdefghijklmnopqrstuvwxyz"
theorem D6:sj.cps.size=26:=by decide +kernel
def D7 (x:Int):Str:=⟨#[sj.cps.toList.getD (x % 26).toNat 0]⟩
theorem Gi (x:Int):bD (.str sj) (.int (x % 26))=sS (D7 x):=DL.zL (Ca x).1 (by rw[D6];have:=Ca x;lia) (by decide +kernel)
theorem zf:∀(zs:LS)(y:Str),(Str.join ("" : Str) (y::zs)).cps.toList=(y::zs).flatMap λz=>z.cps.toList
 |[],y=>by rw[uO,flatMap_nil,uQ];rfl
 |z::r,y=>by
  have M:∀a b:Str,(a++b).cps.toList=a.cps.toList++b.cps.toList:=λa b=>by show(a.cps++b.cps).toList=_;simp
  show(y++("" : Str)++Str.join ("" : Str) (z::r)).cps.toList=_;rw[M,M,zf r z,show("" : Str).cps.toList=[]from rfl,uQ];rfl
theorem Gj (h:zs≠[]):(Txt.join ("" : Str) zs).cps.toList=zs.flatMap λz=>z.cps.toList:=by
 cases zs with
 |nil=>exact absurd rfl h
 |cons y zs=>
  unfold Txt.join;rw[StrLaws.glued_eq_join];exact zf zs y
theorem mR (x y:Nat):∀(bs:LS)(a:Nat),a<bs.length->(∀z∈bs,∃c,z.cps.toList=[c])->((bs.set a ⟨#[x]⟩).flatMap λz=>z.cps.toList)=((bs.set a ⟨#[y]⟩).flatMap λz=>z.cps.toList)->x=y
 |b::bs,0,_,_,h=>by
  rw[List.set_cons_zero,List.set_cons_zero,uO,uO]at h;exact(List.cons.inj h).1
 |b::bs,a+1,hl,hb,h=>by
  rw[List.set_cons_succ,List.set_cons_succ,uO,uO]at h;exact mR x y bs a (by simpa using hl) (λz hz=>hb z (mZ _ hz)) (List.append_cancel_left h)
theorem Gk:∀i j:Fin 26,sj.cps.toList.getD i.val 0=sj.cps.toList.getD j.val 0->i=j:=by decide +kernel
def mS (bs:LS)(a:Nat)(c:Int)(i:Nat):Str:=Txt.join ("" : Str) (bs.set a (D7 (c / 64+3*(i:Int))))
theorem Pt {p q:Int}(h1:0<=p/\p<26)(h2:0<=q/\q<26)(h:p.toNat=q.toNat):p=q:=by lia
theorem K1 {bs:LS}{a:Nat}{c:Int}{i j:Nat}(ha:a<bs.length)(hb:∀z∈bs,∃c,z.cps.toList=[c])(M:(3*(i:Int) - 3*(j:Int)) % 26≠0):mS bs a c i≠mS bs a c j:=by
 intro e;have e:=congrArg (λs:Str=>s.cps.toList) e;unfold mS at e;have O:∀x,bs.set a x≠[]:=λx z=>by have:=congrArg List.length z;rw[length_set,length_nil]at this;lia
 simp only[Gj (O _)]at e;have:=mR _ _ bs a ha hb e;have h1:=Ca (c / 64+3*(i:Int));have h2:=Ca (c / 64+3*(j:Int));have:=Gk ⟨((c / 64+3*(i:Int)) % 26).toNat,by lia⟩ ⟨((c / 64+3*(j:Int)) % 26).toNat,by lia⟩ this;have:=congrArg Fin.val this;simp only at this;have h3:=Pt h1 h2 this;have h4:=Int.emod_eq_emod_iff_emod_sub_eq_zero.mp h3;rw[Int.add_sub_add_left]at h4;exact M h4
def nE (c:Int)(bs:LS)(a:Nat)(zs:LS)(M v6:OB):DL.Env:=[sI c,sS sj,lT (bs.map .str),sI a,lT (zs.map .str),M,v6]
theorem A2 (c:Int)(bs:LS)(a:Nat)(zs:LS)(v6:OB)(h1:∀z∈bs,z.length=1)(M:bs.length<=8)(ha:a<bs.length)(i:Nat)(hz:zs.length<=7):lZ (nE c bs a zs (sI i) v6)=some (.nx (nE c bs a (zs++[mS bs a c i]) (sI i) (lT ((bs.set a (D7 (c / 64+3*i))).map .str)))):=by
 have h2:∀z∈bs.set a (D7 (c / 64+3*i)),z.length=1:=λz hz=>by
  rcases List.mem_or_eq_of_mem_set hz with h|h
  ·exact h1 z h
  ·rw[h];rfl
 refine(de (ds:=bs.map .str) (r:=some (.nx (nE c bs a (zs++[mS bs a c i]) (sI i) (lT ((bs.set a (D7 (c / 64+3*i))).map .str))))) (by simp[nE]) (eA _) (eM (Gh (n:=a) (ds:=bs.map .str) (d:=.str (D7 (c / 64+3*i))) (b:=false) (b':=false) rfl ?_ rfl (by simpa using ha) rfl) ((jL (ds:=zs.map .str) (d:=.str (mS bs a c i)) (b:=false) rfl ?_ rfl (bY (by simp;lia))).trans ?_)))
 ·exact bC (.str sj) (.int ((c / 64+3*i) % 26)) rfl (by simp[nE]) (Gi _)
 ·refine bC (.str "") (.lst ((bs.set a (D7 (c / 64+3*i))).map .str)) rfl (by simp[nE]) ?_;show(iO ((bs.set a (D7 (c / 64+3*i))).map .str)).bind _=_;rw[rT];have:=BZ _ h2;have h0:("" : Str).length=0:=rfl;show(if _ then _ else _)=_;rw[if_pos (by rw[this,h0,length_set];lia)];rfl
 ·simp[nE]
theorem A3 (c:Int)(hc:0<=c){n:Nat}(hn:1+c % 8=n):bN (gK (f2 ca (fI 1) (f2 bO (ai 0) (fI 8)))) 1 [1,0] (dj 0) fM (f2 bD (ai 1) (f2 bO (f2 cR (ai 2) (f2 ca (fI 3) (f2 g7 (fI 4) (ai 0)))) (fI 26))) [sI c,sS sj,none,none,none,none,none]=lT (((List.range n).map λ(k:Nat)=>D7 (c / (3+4*k))).map .str):=by
 have M:=mod_lt (x:=c) (m:=8) (by decide);have hb:=kB (fi:=gK (f2 ca (fI 1) (f2 bO (ai 0) (fI 8)))) (nT:=1) (cap:=[1,0]) (tg:=dj 0) (fe:=f2 bD (ai 1) (f2 bO (f2 cR (ai 2) (f2 ca (fI 3) (f2 g7 (fI 4) (ai 0)))) (fI 26)))
  (ρ:=[sI c,sS sj,none,none,none,none,none]) (List.range n) (λ(k:Nat)=>.int k) (λ(k:Nat)=>.str (D7 (c / (3+4*k))))
  (by rw[jz (j:=n) (b:=false) (by simp;lia) (by lia),Dx];simp) (by simp;lia) λk hk=>by
   have hk:=mem_range.mp hk;refine⟨_,rfl,false,bC (.str sj) (.int (c / (3+4*k) % 26)) (by simp[dn]) ?_ (Gi _)⟩;have h1:(0:Int)<3+4*k:=by lia
   have h2:(3:Int)+4*k<1073741824:=by lia
   simp[dn,h1,h2]
 rw[hb,uP];rfl
theorem D8 (c:Int)(bs:LS)(a:Nat)(M:Str)(O:LS)(hz:5<(M::O).length)(T v6:OB)(g:FS)(U:g=aF (eZ (bw (f2 eV (f2 bO (f2 cR (ai 0) (fI 1000)) (fI 8)) (fI 1))) (Aa 4 (fI 5) (dE 4 0)) bx) (jn 4)):g (nE c bs a (M::O) T v6)=some (.rt (.lst ((if c / 1000 % 8=1 then (M::O).set 5 M else M::O).map .str)) true):=by
 subst U;by_cases h:c / 1000 % 8=1
 ·rw[if_pos h];refine eM (lU (cY (by simp[h,nE])) (Gh (n:=5) (ds:=(M::O).map .str) (d:=.str M) (b:=false) (b':=false) rfl ?_ rfl (by simpa using hz) rfl)) (pF ?_)
  ·exact bC (.lst ((M::O).map .str)) (.int 0) rfl rfl (by simp[D0])
  ·simp[nE]
 ·rw[if_neg h];exact aE (cY (by simp[h,nE])) (pF rfl)
theorem Gm (c:Int)(hc:0<=c):∃zs:LS,nO [.int c]=lT (zs.map .str)/\zs.length=7/\∀x y,zs[5]? = some x->zs[6]? = some y->x≠y:=by
 have o:=mod_lt (x:=c) (m:=8) (by decide);obtain⟨n,hn⟩:∃n:Nat,1+c % 8=n:=⟨(1+c % 8).toNat,by lia⟩;have p:1<=n:=by lia
 have q:n<=8:=by lia
 have T:=A3 c hc hn;have M:∀z∈(List.range n).map λ(k:Nat)=>D7 (c / (3+4*k)),z.length=1/\∃c,z.cps.toList=[c]:=λz hz=>by obtain⟨k,_,rfl⟩:=vO hz;exact⟨rfl,_,rfl⟩
 have U:((List.range n).map λ(k:Nat)=>D7 (c / (3+4*k))).length=n:=by simp
 generalize ((List.range n).map λ(k:Nat)=>D7 (c / (3+4*k)))=bs at T M U;have r:=mod_lt (x:=c / 8) (m:=n) (by lia);obtain⟨a,ha⟩:∃a:Nat,c / 8 % n=a:=⟨(c / 8 % n).toNat,by lia⟩;obtain⟨ρ',e,d,v6,rfl⟩:=qN (tg:=dj 5) (g:=lZ) 7 (λi ρ=>∃(d v6:OB),ρ=nE c bs a ((List.range i).map (mS bs a c)) d v6) (nE c bs a [] none none) ⟨none,none,rfl⟩ (by
  rintro i ρ hi ⟨d,v6,rfl⟩;exact⟨_,_,rfl,.inl (A2 c bs a _ v6 (λz hz=>(M z hz).1) (by lia) (by lia) i (by simp;lia)),_,_,by rw[List.range_succ,uW];rfl⟩)
 have f:=D8 c bs a (mS bs a c 0) [mS bs a c 1,mS bs a c 2,mS bs a c 3,mS bs a c 4,mS bs a c 5,mS bs a c 6] (by simp) d v6 _ rfl;refine⟨_,av rfl (gL (.str sj) rfl rfl (de (ds:=bs.map .str) T (eA _) (gL (.int a) ?_ rfl (de (ds:=[]) (by simp[sizeLine]) (by simp) (eM (qS (jz (j:=7) (b:=false) rfl (by decide)) e) f))))),by split<;>rfl,?_⟩
 ·refine bC (.int (c / 8)) (.int n) (by simp) (by simp[U]) ?_;have h1:(0:Int)<n:=by lia
  show(if decide ((0:Int)<n)=true then _ else _)=_;rw[if_pos (xq h1)];show some (D.int (c / 8 % n),false)=_;rw[ha]
 ·have h:a<bs.length:=by lia
  have l:∀z∈bs,∃c,z.cps.toList=[c]:=λz hz=>(M z hz).2;intro x y hx hy;split at hx
  ·rename_i O;rw[if_pos O]at hy;cases hx;cases hy
   exact K1 h l (by decide)
  ·rename_i O;rw[if_neg O]at hy;cases hx;cases hy
   exact K1 h l (by decide)
def iH (x:Int×OI):D:=.tup [.int x.1,uD x.2]
theorem jA (x:Int×OI):bB (iH x)=true:=by simp[iH,BQ]
theorem uF (x:Int×OI):aQ 5 (iH x)=true:=by obtain⟨s,u⟩:=x;cases u<;>simp[iH,uD]
theorem A4 (a d m:Int):∃x,gF [.int a,.int d,.int m]=some (iH x,false):=by
 have T:=mod_lt (x:=a) (m:=8) (by decide);let M:List (Int×OI):=[(0,none),(d,none),(d,some (d+3*m)),(0,some (d+2*m)),(0,some (9*m))];let L2:List (Int×OI):=[(d+m,some (d+4*m)),(d / 2,some (d+6*m)),(0,none)];have O:∀L:List (Int×OI),bE (L.map iH)=true:=λL=>bZ λd hd=>by obtain⟨x,_,rfl⟩:=vO hd;exact jA x
 have hi:(a % 8).toNat<((M++L2).map iH).length:=by show _<8;lia
 refine⟨(M++L2).getD (a % 8).toNat (0,none),av rfl (de (ds:=M.map iH) (by simp[M,iH,uD,sizeLine]) (O _) (de (ds:=(M++L2).map iH) ?_ (O _) (ax (bC (.lst ((M++L2).map iH)) (.int (a % 8)) rfl (by simp) ((Au T.1 hi).trans ?_)))))⟩
 ·refine fB (x:=.lst (M.map iH)) (y:=.lst (L2.map iH)) (b1:=false) (b2:=true) rfl (by simp[L2,iH,uD,sizeLine]) ?_;simp[M,L2,sizeLine]
 ·rw[vF,vA,vF];rw[vI]at hi;rw[vU hi];rfl
theorem kO {zs:LS}{i:Int}(h1 : -(zs.length:Int)<=i)(h2:i<zs.length):∃z∈zs,bD (.lst (zs.map .str)) (.int i)=sS z:=by
 obtain⟨j,hj,hl⟩:∃j,CC (zs.map D.str).length i=some j/\j<zs.length:=by
  unfold CC;rw[vI];by_cases h0:0<=i
  ·rw[if_pos h0,if_pos h2];exact⟨_,rfl,by lia⟩
  ·rw[if_neg h0,if_pos (by lia)];exact⟨_,rfl,by lia⟩
 refine⟨zs[j],getElem_mem hl,?_⟩;have:oq (zs.map D.str) i=some (.str zs[j]):=by unfold oq;rw[hj,vJ,vA,vU hl];rfl
 simp[this]
noncomputable def MR:LN:=[7,255,3,15]
noncomputable def MS:LN:=[1,2,3,4,5,7,128,255]
inductive Dd:Str->List D->Prop
 |root (o r:Str) (m:Nat) (hm:m∈MR) (f:Int):Dd ("root" : Str) [.str o,.int m,.int f,.str r]
 |named (d:Int) (o p:Str):Dd ("named" : Str) [.int d,.str o,.str p]
 |chosen (d:Int) (b o p:Str) (s:Int):Dd ("chosen" : Str) [.int d,.str b,.str o,.str p,.int s]
 |heir (d:Int) (b o p:Str):Dd ("heir" : Str) [.int d,.str b,.str o,.str p]
 |three (k:Str) (hk:k = "death" \/ k = "lost" \/ k = "found") (d:Int) (p:Str):Dd k [.int d,.str p]
 |leave (d:Int) (b p:Str) (m:Nat) (hm:m∈MS) (x:Int×Option Int) (f:Int):Dd ("leave" : Str) [.int d,.str b,.str p,.int m,iH x,.int f]
 |paper (k:Str) (hk:k = "paper" \/ k = "like") (d:Int) (b:Str) (m:Nat) (hm:m∈MS) (x:Int×Option Int) (r:List D) (hf:bE r=true) (hp:r.all (aQ 5)=true):Dd k (.int d::.str b::.int m::iH x::r)
 |copy (k:Str) (hk:k = "copy" \/ k = "call") (d:Int) (b:Str) (n:Nat):Dd k [.int d,.str b,.int n]
theorem Dd.cd (h:Dd k r):Cd k r:=by
 cases h with
 |root o r m hm f=>exact .root _ _ _ _
 |named d o p=>exact .named _ _ _
 |chosen d b o p s=>exact .chosen _ _ _ _ _
 |heir d b o p=>exact .heir _ _ _ _
 |three k hk d p=>exact .three _ hk _ _
 |leave d b p m hm x f=>exact .other _ (.inl rfl) _ _ _ (by simp[jA]) (by simp only[all_cons,all_nil,uF,aQ,Bool.and_true])
 |paper k hk d b m hm x r hf hp=>exact .other _ (hk.elim (λh=>.inr (.inl h)) λh=>.inr (.inr (.inl h))) _ _ _ (by simp[hf,jA]) (by simp only[all_cons,hp,uF,aQ,Bool.and_true])
 |copy k hk d b n=>exact .other _ (hk.elim (λh=>.inr (.inr (.inr (.inl h)))) λh=>.inr (.inr (.inr (.inr h)))) _ _ _ rfl (by simp)
theorem Dd.had3 (h:Dd k r)(hk:k = "leave" \/ k = "named"):∃p,r[2]? = some (.str p):=by
 have hk:k∈[("leave" : Str),"named"]:=by simpa using hk
 cases h with
 |named d o p=>exact⟨p,rfl⟩
 |leave d b p=>exact⟨p,rfl⟩
 |root=>exact cV hk
 |chosen=>exact cV hk
 |heir=>exact cV hk
 |three k M=>rcases M with rfl|rfl|rfl<;>exact cV hk
 |paper k M=>rcases M with rfl|rfl<;>exact cV hk
 |copy k M=>rcases M with rfl|rfl<;>exact cV hk
theorem Dd.had4 (h:Dd k r)(hk:k = "chosen"):∃p,r[3]? = some (.str p):=by
 cases h with
 |chosen d b o p=>exact⟨p,rfl⟩
 |root=>exact cV hk
 |named=>exact cV hk
 |leave=>exact cV hk
 |heir=>exact cV hk
 |three k M=>rcases M with rfl|rfl|rfl<;>exact cV hk
 |paper k M=>rcases M with rfl|rfl<;>exact cV hk
 |copy k M=>rcases M with rfl|rfl<;>exact cV hk
theorem Dd.flat (h:Dd k r):bE r=true:=h.cd.deed.flat
noncomputable def fR:LS:=[("leave" : Str),"leave","leave","leave","leave","paper","paper","like","copy","copy","call","call","named","death","lost","found","chosen","heir"]
theorem D9 (h:w∈fR):w = "leave" \/ w = "paper" \/ w = "like" \/ w = "copy" \/ w = "call" \/ w = "named" \/ w = "death" \/ w = "lost" \/ w = "found" \/ w = "chosen" \/ w = "heir":=by
 simp only[fR,mem_cons,not_mem_nil,or_false]at h;rcases h with rfl|rfl|rfl|rfl|rfl|rfl|rfl|rfl|rfl|rfl|rfl|rfl|rfl|rfl|rfl|rfl|rfl|rfl<;>simp
theorem Gn (M c o day m:Int)(zs gQ:LS)(hz:zs.length=7)(hh:gQ≠[]):
  ∃(w T p:Str)(U:Nat),w∈fR/\∀(h:FS)(r:Option Res),h [sI M,sI c,sI o,sL (zs.map .str),sI day,sL (gQ.map .str),sI m,lT (fR.map .str),sS w,sS T,sS p,sI U,none,none,none]=r ->
   (aF (aW 7 (f2 ca (f2 ca (Dp (fA bI (af (fS "leave") aj)) (fI 5)) (Dp (fA bI (af (fS "paper") aj)) (fI 2))) (fA bI (af (fS "like") (af (fS "copy") (af (fS "copy") (af (fS "call") (af (fS "call") aj)))))))) (aF (aW 7 (f2 ca (ai 7) (fA bI (af (fS "named") (af (fS "death") (af (fS "lost") (af (fS "found") (af (fS "chosen") (af (fS "heir") aj))))))))) (aF (aW 8 (f2 bD (ai 7) (f2 bO (ai 1) (fI 18)))) (aF (aW 9 (f2 bD (ai 5) (f2 zR (f1 xX (fI 1)) (f2 bO (f2 cR (ai 1) (fI 18)) (fA Ij (af (fI 3) (af (fA gd (fV 5 aj)) aj))))))) (aF (eZ (bw (f2 eV (f2 bO (f2 cR (ai 1) (fI 54)) (fI 6)) (fI 1))) (aW 9 (f2 bD (ai 3) (f2 bO (f2 cR (ai 1) (fI 324)) (fI 5)))) bx) (aF (aW 10 (f2 bD (ai 3) (f2 bO (f2 cR (ai 1) (fI 1620)) (fI 5)))) (aF (aW 11 (fA Ii (af (fI 0) (af (f2 zR (f2 zR (ai 0) (fI 1)) (f2 bO (ai 2) (fI 4))) aj)))) (aF (eZ (bw (f2 eV (f2 bO (f2 cR (ai 2) (fI 4)) (fI 8)) (fI 1))) (aW 11 (f2 bO (f2 cR (ai 2) (fI 32)) (fI 60))) bx) h)))))))) [sI M,sI c,sI o,sL (zs.map .str),sI day,sL (gQ.map .str),sI m,none,none,none,none,none,none,none,none]=r:=by
 have A:=mod_lt (x:=c) (m:=18) (by decide);obtain⟨w,hw,g⟩:=kO (zs:=fR) (i:=c % 18) (by simp[fR];lia) (by simp[fR];lia);obtain⟨n,hn,O,B⟩:∃n:Int,(if(gQ.length:Int)<3 then (gQ.length:Int)else 3)=n/\0<n/\n<=gQ.length:=by
  have:0<gQ.length:=List.length_pos_iff.mpr hh;split
  ·exact⟨_,rfl,by lia,by lia⟩
  ·exact⟨_,rfl,by lia,by lia⟩
 have C:=mod_lt (x:=c / 18) (m:=n) O;obtain⟨a,_,j⟩:=kO (zs:=gQ) (i:=-1 - c / 18 % n) (by lia) (by lia);have h5:=mod_lt (x:=c / 324) (m:=5) (by decide);obtain⟨b1,_,l⟩:=kO (zs:=zs) (i:=c / 324 % 5) (by lia) (by lia);have E:=mod_lt (x:=c / 1620) (m:=5) (by decide);obtain⟨p,_,q⟩:=kO (zs:=zs) (i:=c / 1620 % 5) (by lia) (by lia);have F:=mod_lt (x:=o / 32) (m:=60) (by decide);obtain⟨f0,t⟩:∃f0:Nat,(if M - 1 - o % 4 > 0 then M - 1 - o % 4 else 0)=(f0:Int):=by
  split
  ·exact⟨(M - 1 - o % 4).toNat,by lia⟩
  ·exact⟨0,rfl⟩
 obtain⟨f1,u⟩:∃f1:Nat,o / 32 % 60=(f1:Int):=⟨(o / 32 % 60).toNat,by lia⟩;refine⟨w,if c / 54 % 6=1 then b1 else a,p,if o / 4 % 8=1 then f1 else f0,hw,λh r hr=>?_⟩;refine de (ds:=(fR.take 12).map .str) ?_ (eA _) (de (ds:=fR.map .str) ?_ (eA _) (gL (.str w) (bC (.lst (fR.map .str)) (.int (c % 18)) rfl (by simp) g) rfl (gL (.str a) ?_ rfl (eM (ρ':=[sI M,sI c,sI o,sL (zs.map .str),sI day,sL (gQ.map .str),sI m,lT (fR.map .str),sS w,sS (if c / 54 % 6=1 then b1 else a),none,none,none,none,none]) ?_ (gL (.str p) ?_ rfl (gL (.int f0) ?_ rfl (eM ?_ hr)))))))
 ·have f:∀(s:Str)(k:Nat),k<=100->Dp (fA bI (af (fS s) aj)) (fC (.int k)) [sI M,sI c,sI o,sL (zs.map .str),sI day,sL (gQ.map .str),sI m,none,none,none,none,none,none,none,none]=lT (List.replicate k (.str s)):=λs k hk=>by
   have h1:(k:Int)<=1000:=by lia
   have h2:k<=1000:=by lia
   have h3:∀n:Nat,(List.replicate n [D.str s]).flatten=List.replicate n (.str s):=λn=>by
    induction n with
    |zero=>rfl
    |succ n v=>rw[replicate_succ,flatten_cons,v,replicate_succ];rfl
   simp[sizeLine,h1,h2,h3]
  have z:∀n:Nat,n<=100->n<=sizeLine:=λn h=>dR (by lia);refine fB (x:=.lst ((fR.take 7).map .str)) (y:=.lst (((fR.drop 7).take 5).map .str)) (b1:=true) (b2:=true) (fB (x:=.lst ((fR.take 5).map .str)) (y:=.lst (List.replicate 2 (.str "paper"))) (b1:=true) (b2:=true) (f _ 5 (by decide)) (f _ 2 (by decide)) ?_) (aN (((fR.drop 7).take 5).map .str) rfl (jf _ (by simp[fR]))) ?_
  ·refine(if_pos (c:=7<=sizeLine) (e:=none) (z 7 (by decide))).trans ?_;rfl
  ·refine(if_pos (c:=12<=sizeLine) (e:=none) (z 12 (by decide))).trans ?_;rfl
 ·refine fB (x:=.lst ((fR.take 12).map .str)) (y:=.lst ((fR.drop 12).map .str)) (b1:=false) (b2:=true) rfl (aN ((fR.drop 12).map .str) rfl (jf _ (by decide))) ?_;refine(if_pos (c:=18<=sizeLine) (e:=none) (dR (by decide))).trans ?_;rfl
 ·refine bC (.lst (gQ.map .str)) (.int (-1 - c / 18 % n)) rfl ?_ j;refine bC (.int (-1)) (.int (c / 18 % n)) rfl ?_ rfl;refine bC (.int (c / 18)) (.int n) (by simp) (by simp[hn]) ?_;show(if decide ((0:Int)<n)=true then _ else _)=_;rw[if_pos (xq O)]
 ·by_cases hx:c / 54 % 6=1
  ·rw[if_pos hx];exact lU (cY (by simp[hx])) (qR (d:=.str b1) (b:=false) (bC (.lst (zs.map .str)) (.int (c / 324 % 5)) rfl (by simp) l) rfl)
  ·rw[if_neg hx];exact nM (cY (by simp[hx])) rfl
 ·exact bC (.lst (zs.map .str)) (.int (c / 1620 % 5)) rfl (by simp) q
 ·show some (D.int (if M - 1 - o % 4 > 0 then M - 1 - o % 4 else 0),false)=_;rw[t]
 ·by_cases hx:o / 4 % 8=1
  ·simp only[if_pos hx];exact lU (cY (by simp[hx])) (qR (d:=.int f1) (b:=false) (by simp[u]) rfl)
  ·simp only[if_neg hx];exact nM (cY (by simp[hx])) rfl
theorem mT {ns:LI}{i:Int}(h1:0<=i)(h2:i<ns.length):∃m∈ns,bD (.lst (ns.map .int)) (.int i)=sI m:=by
 have h:i.toNat<ns.length:=by lia
 refine⟨ns.getD i.toNat 0,?_,BA h1 h⟩;rw[vF,vU h];exact getElem_mem h
theorem nX (h : -1000<=a/\a<=1000):LO (.int a) (.int b)=sI (a*b):=by
 have : -18446744073709551616<a/\a<18446744073709551616:=by lia
 simp[this]
theorem di (e:ρ[i]? = some (sS a))(h:decide (a=b)=false:=by decide +kernel):bw (f2 eV (ai i) (fS b)) ρ=some false:=bT (a:=a) (bb:=false) (by simp[e]) h
theorem A5 (e:ρ[i]? = some (sS a))(h:decide (a=b)=true:=by decide +kernel):bw (f2 eV (ai i) (fS b)) ρ=some true:=bT (a:=a) (bb:=false) (by simp[e]) h
theorem zg (x:Bool)(e:ρ[i]? = some (sS a))(h:decide (a∈[b,c])=x:=by decide +kernel):bw (f2 ph (ai i) (fA be (af (fS b) (af (fS c) aj)))) ρ=some x:=cY (bC (.str a) (.tup ([b,c].map .str)) (by simp[e]) (by simp[sizeLine]) (by rw[iu,h]))
theorem K2 {l:LI}{x:Int}(h:x∈l)(hl:l.all (λy=>decide (0<=y/\y.toNat∈MS))=true):∃m:Nat,x=m/\m∈MS:=by
 have:=DQ (uR hl x h);exact⟨x.toNat,by lia,this.2⟩
theorem Jl (b c o day m:Int)(zs gQ:LS)(hz:zs.length=7)(hh:gQ≠[]):
  ∃k r,rC [.int b,.int c,.int o,.lst (zs.map .str),.int day,.lst (gQ.map .str),.int m]=sT (.str k::r)/\Dd k r/\k ≠ "root":=by
 obtain⟨w,O,p,T,hw,pre⟩:=Gn b c o day m zs gQ hz hh;obtain⟨s,es⟩:=A4 (o / 32) day m;have j:=mod_lt (x:=c / 8100) (m:=8) (by decide);obtain⟨R,E,F⟩:=mT (ns:=[3,1,7,2,255,5,1,3]) (i:=c / 8100 % 8) j.1 j.2;obtain⟨S,G,v⟩:=mT (ns:=[1,1,3,2,4,5,128,7]) (i:=c / 8100 % 8) j.1 j.2;obtain⟨n,rfl,H⟩:=K2 E (by decide);obtain⟨a,rfl,z⟩:=K2 G (by decide);have h4:=mod_lt (x:=o / 2560) (m:=4) (by decide);obtain⟨d,I,ed⟩:=mT (ns:=[5,5,5,10]) (i:=o / 2560 % 4) h4.1 h4.2;have J:0<d:=by simp only[mem_cons,not_mem_nil,or_false]at I;lia
 have h2:=mod_lt (x:=o / 256) (m:=2) (by decide);obtain⟨U,K,l,A⟩:∃U,bD (.lst [.non,.str p]) (.int (o / 256 % 2))=some (U,false)/\bB U=true/\aQ 5 U=true:=by
  rcases (show o / 256 % 2=0\/o / 256 % 2=1 by lia)with h|h
  ·rw[h];exact⟨.non,by simp[D0],rfl,by simp⟩
  ·rw[h];exact⟨.str p,by simp[BN],rfl,by simp⟩
 have V:=mod_lt (x:=o) (m:=2) (by decide);have W:=mod_lt (x:=o) (m:=2) (by decide);obtain⟨off,_,L⟩:=kO (zs:=zs) (i:=5+o % 2) (by lia) (by lia);obtain⟨B,_,N⟩:=kO (zs:=zs) (i:=5+o % 2) (by lia) (by lia);have X:=mod_lt (x:=o / 32) (m:=3) (by decide);have t:∀(ρ:DL.Env),ρ[2]? = some (sI o)->ρ[4]? = some (sI day)->ρ[6]? = some (sI m)->fA gF (af (f2 cR (ai 2) (fI 32)) (fV 4 (fV 6 aj))) ρ=some (iH s,false):=λρ f g P=>
  aN [.int (o / 32),.int day,.int m] (by simp[f,g,P]) es
 have C:∀(ρ:DL.Env),ρ[2]? = some (sI o)->ρ[3]? = some (sL (zs.map .str))->f2 bD (ai 3) (f2 ca (fI 5) (f2 bO (ai 2) (fI 2))) ρ=sS off:=λρ f g=>bC (.lst (zs.map .str)) (.int (5+o % 2)) (by simp[g]) (by simp[f]) L;have u:∀(ns:LI)(M:Nat)(ρ:DL.Env)(fl:FE),fl ρ=lT (ns.map .int)->ρ[1]? = some (sI c)->bD (.lst (ns.map .int)) (.int (c / 8100 % 8))=sI M->f2 bD fl (f2 bO (f2 cR (ai 1) (fI 8100)) (fI 8)) ρ=sI M:=λns M ρ fl Q q e=>fB (x:=.lst (ns.map .int)) (y:=.int (c / 8100 % 8)) (b1:=true) (b2:=false) Q (by simp[q]) e;have D:∀(ρ:DL.Env),ρ[2]? = some (sI o)->ρ[10]? = some (sS p)->f2 bD (fA bI (af (fC .non) (fV 10 aj))) (f2 bO (f2 cR (ai 2) (fI 256)) (fI 2)) ρ=some (U,false):=λρ f g=>fB (x:=.lst [.non,.str p]) (y:=.int (o / 256 % 2)) (b1:=true) (b2:=false) (by simp[sizeLine,g]) (by simp[f]) K;rcases D9 hw with rfl|rfl|rfl|rfl|rfl|rfl|rfl|rfl|rfl|rfl|rfl
 ·refine⟨_,[.int day,.str O,.str p,.int n,iH s,.int (o / 256 % d)],av rfl (pre _ _ ?_),.leave _ _ _ _ H _ _,by decide +kernel⟩;refine bA (A5 rfl) (gL (.int n) (u [3,1,7,2,255,5,1,3] _ _ _ (by simp[sizeLine]) rfl F) rfl (gL (.int (o / 256 % d)) ?_ rfl (ax (aN [.str "leave",.int day,.str O,.str p,.int n,iH s,.int (o / 256 % d)] (cw rfl (cw rfl (cw rfl (cw rfl (cw rfl (aI (t _ rfl rfl rfl) (cw rfl rfl))))))) (cI _ (by simp))))));refine bC (.int (o / 256)) (.int d) (by simp) (fB (x:=.lst (([5,5,5,10]:LI).map .int)) (y:=.int (o / 2560 % 4)) (b1:=true) (b2:=false) (by simp[sizeLine]) (by simp) ed) ?_;show(if decide ((0:Int)<d)=true then _ else _)=_;rw[if_pos (xq J)]
 ·refine⟨_,[.int day,.str O,.int a,iH s,U,.tup [.str p]],av rfl (pre _ _ ?_),.paper _ (.inl rfl) _ _ _ z _ _ (by simp[l]) (by simp[A]),by decide +kernel⟩;exact aE (di rfl) (bA (cC (p:=true) (q:=false) (A5 rfl) λ_=>di rfl) (gL (.int a) (u [1,1,3,2,4,5,128,7] _ _ _ (by simp[sizeLine]) rfl v) rfl (gL (.tup [.str "paper",.int day,.str O,.int a,iH s,U]) (aN [.str "paper",.int day,.str O,.int a,iH s,U] (cw rfl (cw rfl (cw rfl (cw rfl (aI (t _ rfl rfl rfl) (aI (D _ rfl rfl) rfl)))))) (cI _ (by simp))) (by simp[jA,l]) (aE (di rfl) (ax (bC (.tup [.str "paper",.int day,.str O,.int a,iH s,U]) (.tup [.tup [.str p]]) rfl (by simp[sizeLine]) (by simp[sizeLine])))))))
 ·refine⟨_,[.int day,.str O,.int a,iH s,U,.int T,.tup [.tup [.int 0,.str p]]],av rfl (pre _ _ ?_),.paper _ (.inr rfl) _ _ _ z _ _ (by simp[l]) (by simp[A]),by decide +kernel⟩;exact aE (di rfl) (bA (cC (p:=false) (q:=true) (di rfl) λ_=>A5 rfl) (gL (.int a) (u [1,1,3,2,4,5,128,7] _ _ _ (by simp[sizeLine]) rfl v) rfl (gL (.tup [.str "like",.int day,.str O,.int a,iH s,U]) (aN [.str "like",.int day,.str O,.int a,iH s,U] (cw rfl (cw rfl (cw rfl (cw rfl (aI (t _ rfl rfl rfl) (aI (D _ rfl rfl) rfl)))))) (cI _ (by simp))) (by simp[jA,l]) (bA (A5 rfl) (ax (bC (.tup [.str "like",.int day,.str O,.int a,iH s,U]) (.tup [.int T,.tup [.tup [.int 0,.str p]]]) rfl (by simp[sizeLine]) (by simp[sizeLine])))))))
 ·exact⟨_,[.int day,.str O,.int T],av rfl (pre _ _ (aE (di rfl) (aE (cC (p:=false) (q:=false) (di rfl) λ_=>di rfl) (bA (zg true rfl) (ax (aN [.str "copy",.int day,.str O,.int T] rfl (cI _ (by simp)))))))),.copy _ (.inl rfl) _ _ _,by decide +kernel⟩
 ·exact⟨_,[.int day,.str O,.int T],av rfl (pre _ _ (aE (di rfl) (aE (cC (p:=false) (q:=false) (di rfl) λ_=>di rfl) (bA (zg true rfl) (ax (aN [.str "call",.int day,.str O,.int T] rfl (cI _ (by simp)))))))),.copy _ (.inr rfl) _ _ _,by decide +kernel⟩
 ·exact⟨_,[.int day,.str off,.str p],av rfl (pre _ _ (aE (di rfl) (aE (cC (p:=false) (q:=false) (di rfl) λ_=>di rfl) (aE (zg false rfl) (bA (A5 rfl) (ax (aN [.str "named",.int day,.str off,.str p] (cw rfl (cw rfl (aI (C _ rfl rfl) (cw rfl rfl)))) (cI _ (by simp))))))))),.named _ _ _,by decide +kernel⟩
 ·exact⟨_,[.int day,.str O],av rfl (pre _ _ (aE (di rfl) (aE (cC (p:=false) (q:=false) (di rfl) λ_=>di rfl) (aE (zg false rfl) (aE (di rfl) (aE (di rfl) (aE (di rfl) (ax (aN [.str "death",.int day,.str O] rfl (cI _ (by simp))))))))))),.three _ (.inl rfl) _ _,by decide +kernel⟩
 ·exact⟨_,[.int day,.str O],av rfl (pre _ _ (aE (di rfl) (aE (cC (p:=false) (q:=false) (di rfl) λ_=>di rfl) (aE (zg false rfl) (aE (di rfl) (aE (di rfl) (aE (di rfl) (ax (aN [.str "lost",.int day,.str O] rfl (cI _ (by simp))))))))))),.three _ (.inr (.inl rfl)) _ _,by decide +kernel⟩
 ·exact⟨_,[.int day,.str O],av rfl (pre _ _ (aE (di rfl) (aE (cC (p:=false) (q:=false) (di rfl) λ_=>di rfl) (aE (zg false rfl) (aE (di rfl) (aE (di rfl) (aE (di rfl) (ax (aN [.str "found",.int day,.str O] rfl (cI _ (by simp))))))))))),.three _ (.inr (.inr rfl)) _ _,by decide +kernel⟩
 ·refine⟨_,[.int day,.str O,.str B,.str p,.int (day+o / 32 % 3*m)],av rfl (pre _ _ (aE (di rfl) (aE (cC (p:=false) (q:=false) (di rfl) λ_=>di rfl) (aE (zg false rfl) (aE (di rfl) (bA (A5 rfl) (ax (aN [.str "chosen",.int day,.str O,.str B,.str p,.int (day+o / 32 % 3*m)] ?_ (cI _ (by simp)))))))))),.chosen _ _ _ _ _,by decide +kernel⟩;exact cw rfl (cw rfl (cw rfl (aI (bC (.lst (zs.map .str)) (.int (5+o % 2)) rfl (by simp) N) (cw rfl (cw (bC (.int day) (.int (o / 32 % 3*m)) rfl (bC (.int (o / 32 % 3)) (.int m) (by simp) rfl (nX (by lia))) rfl) rfl)))))
 ·exact⟨_,[.int day,.str O,.str off,.str p],av rfl (pre _ _ (aE (di rfl) (aE (cC (p:=false) (q:=false) (di rfl) λ_=>di rfl) (aE (zg false rfl) (aE (di rfl) (aE (di rfl) (bA (A5 rfl) (ax (aN [.str "heir",.int day,.str O,.str off,.str p] (cw rfl (cw rfl (cw rfl (aI (C _ rfl rfl) (cw rfl rfl))))) (cI _ (by simp))))))))))),.heir _ _ _ _,by decide +kernel⟩
def cf (r:D):Prop:=∃h k aH,r=row h k aH/\Dd k aH
theorem cf.c (g:cf r):wR r:=by obtain⟨h,k,aH,e,d⟩:=g;exact⟨h,k,aH,e,d.cd⟩
theorem cf.flat (g:cf r):bB r=true:=g.c.rp.flat
theorem Pu (c1 m O:Int)(xs zs gQ:LS)(ns:LI)(ab:LD)(hz:zs.length=7)(i:Nat)(hi:i<2)(hr:ab.length<=100)(hh:gQ.length<=100)(v8 v9 DS DT:OB):
  ∃a c p j k l n,(cf a/\bi a=true/\zs[5+i]? = some (az 0 a))/\(cf c/\bi c=false)/\j5 [sL (ns.map .int),sL (zs.map .str),sI m,sI O,sI c1,lT ab,lT (gQ.map .str),sI i,v8,v9,DS,DT,none,none,none]
   = some (.nx [sL (ns.map .int),sL (zs.map .str),sI m,sI O,sI c1,lT (ab++[a]++[c]),lT ((gQ++[p]).map .str),sI i,j,k,l,n,none,none,none]):=by
 have h3:=mod_lt (x:=c1 / (64+9*i)) (m:=3) (by decide);obtain⟨rl,_,o⟩:=kO (zs:=[("open" : Str),"first","last"]) (i:=c1 / (64+9*i) % 3) (by simp;lia) (by simp;lia);have h4:=mod_lt (x:=c1 / (2+8*i)) (m:=4) (by decide);obtain⟨q,T,r⟩:=mT (ns:=[7,255,3,15]) (i:=c1 / (2+8*i) % 4) h4.1 h4.2;obtain⟨mt,s,u⟩:∃mt:Nat,q=mt/\mt∈MR:=by
  simp only[mem_cons,not_mem_nil,or_false]at T;rcases T with rfl|rfl|rfl|rfl<;>first|exact⟨7,rfl,by decide⟩|exact⟨255,rfl,by decide⟩|exact⟨3,rfl,by decide⟩|exact⟨15,rfl,by decide⟩
 have e:=r;rw[s]at e;have f:=mod_lt (x:=c1 / (31+i)) (m:=3) (by decide);obtain⟨M,v,ed⟩:=mT (ns:=[5,5,10]) (i:=c1 / (31+i) % 3) f.1 f.2;have w:0<M:=by simp only[mem_cons,not_mem_nil,or_false]at v;lia
 obtain⟨of,z,g⟩:∃of,zs[5+i]? = some of/\bD (.lst (zs.map .str)) (.int (5+i))=sS of:=by
  have hl:5+i<zs.length:=by lia
  refine⟨zs[5+i],vU hl,?_⟩;have A:((5:Int)+i).toNat<(zs.map D.str).length:=by rw[vI];lia
  rw[DL.Au (by lia) A,show((5:Int)+i).toNat=5+i by lia,vF,vA,vU hl];rfl
 obtain⟨pn,_,h⟩:=kO (zs:=zs) (i:=i) (by lia) (by lia);have B:(0:Int)<64+9*i/\(64:Int)+9*i<1073741824:=by lia
 have b2:(0:Int)<2+8*i/\(2:Int)+8*i<1073741824:=by lia
 have C:(0:Int)<512+i/\(512:Int)+i<1073741824:=by lia
 have U:(0:Int)<1024+5*i/\(1024:Int)+5*i<1073741824:=by lia
 have E:(0:Int)<31+i/\(31:Int)+i<1073741824:=by lia
 let t:Int:=if c1 / (512+i) % 8=1 then 1 else 0;have F:0<=t/\t<=1:=by show 0<=(if _ then (1:Int)else 0)/\(if _ then (1:Int)else 0)<=1;split<;>lia
 refine⟨row (t*4*m) ("root" : Str) [.str of,.int mt,.int (c1 / (1024+5*i) % M),.str rl],row 0 ("named" : Str) [.int 0,.str of,.str pn],pn,sS rl,sI mt,sI (t*4*m),sI (c1 / (1024+5*i) % M),⟨⟨_,_,_,rfl,.root _ _ _ u _⟩,xq rfl,z⟩,⟨⟨_,_,_,rfl,.named _ _ _⟩,show decide (("named" : Str) = "root")=false by decide +kernel⟩,?_⟩;refine gL (.str rl) ?_ rfl (gL (.int mt) ?_ rfl (gL (.int (t*4*m)) ?_ rfl (gL (.int (c1 / (1024+5*i) % M)) ?_ rfl (Kw (ds:=ab) (d:=row (t*4*m) ("root" : Str) [.str of,.int mt,.int (c1 / (1024+5*i) % M),.str rl]) (b:=false) rfl ?_ rfl (bY (by lia)) (Kw (ds:=ab++[row (t*4*m) ("root" : Str) [.str of,.int mt,.int (c1 / (1024+5*i) % M),.str rl]]) (d:=row 0 ("named" : Str) [.int 0,.str of,.str pn]) (b:=false) rfl ?_ rfl (bY (by simp;lia)) ((jL (ds:=gQ.map .str) (d:=.str pn) (b:=false) rfl ?_ rfl (bY (by simp;lia))).trans ?_))))))
 ·exact fB (x:=.lst (([("open" : Str),"first","last"]:LS).map .str)) (y:=.int (c1 / (64+9*i) % 3)) (b1:=true) (b2:=false) (by simp[sizeLine]) (by simp[B]) o
 ·exact fB (x:=.lst (([7,255,3,15]:LI).map .int)) (y:=.int (c1 / (2+8*i) % 4)) (b1:=true) (b2:=false) (by simp[sizeLine]) (by simp[b2]) e
 ·refine bC (.int (t*4)) (.int m) (bC (.int t) (.int 4) ?_ rfl (by simp)) rfl (nX (by lia));refine aN [.bl (decide (c1 / (512+i) % 8=1))] (cw (bC (.int (c1 / (512+i) % 8)) (.int 1) (by simp[C]) rfl (by simp)) rfl) ?_;simp[t]
 ·refine bC (.int (c1 / (1024+5*i))) (.int M) (by simp[U]) (fB (x:=.lst (([5,5,10]:LI).map .int)) (y:=.int (c1 / (31+i) % 3)) (b1:=true) (b2:=false) (by simp[sizeLine]) (by simp[E]) ed) ?_;show(if decide ((0:Int)<M)=true then _ else _)=_;rw[if_pos (xq w)]
 ·refine aN [.int (t*4*m),.tup [.str "root",.str of,.int mt,.int (c1 / (1024+5*i) % M),.str rl]] (cw rfl (cw (aN [.str "root",.str of,.int mt,.int (c1 / (1024+5*i) % M),.str rl] (cw rfl (aI (bC (.lst (zs.map .str)) (.int (5+i)) rfl (by simp) g) (cw rfl (cw rfl (cw rfl rfl))))) (cI _ (by simp))) rfl)) (cI _ (by simp))
 ·refine aN [.int 0,.tup [.str "named",.int 0,.str of,.str pn]] (cw rfl (cw (aN [.str "named",.int 0,.str of,.str pn] (cw rfl (cw rfl (aI (bC (.lst (zs.map .str)) (.int (5+i)) rfl (by simp) g) (aI (bC (.lst (zs.map .str)) (.int i) rfl rfl h) rfl)))) (cI _ (by simp))) rfl)) (cI _ (by simp))
 ·exact bC (.lst (zs.map .str)) (.int i) rfl rfl h
 ·simp
noncomputable def kP (ab:LD):LS:=(ab.filter bi).map (az 0)
theorem nY (ab:LD)(r:D):kP (ab++[r])=kP ab++if bi r=true then [az 0 r]else []:=by
 unfold kP;rw[filter_append,uW,filter_cons];split
 ·rename_i h;rfl
 ·rename_i h;rfl
theorem Pw (c1 m O:Int)(zs gQ:LS)(ns:LI)(ab:LD)(hz:zs.length=7)(i:Nat)(hi:i<100)(hr:ab.length<=200)(hh:gQ≠[])(P:gQ.length<=200)(v8 v9 DS DT NM NN NO:OB):
  ∃g M t u v,(cf g/\bi g=false)/\M≠[]/\M.length<=gQ.length+1/\j6 [sL (ns.map .int),sL (zs.map .str),sI m,sI O,sI c1,lT ab,lT (gQ.map .str),sI i,v8,v9,DS,DT,NM,NN,NO]
   = some (.nx [sL (ns.map .int),sL (zs.map .str),sI m,sI O,sI c1,lT (ab++[g]),lT (M.map .str),sI i,v8,v9,DS,DT,t,u,v]):=by
 obtain⟨T,w,Q⟩:=gV ns (5+i);obtain⟨o,z,R⟩:=gV ns (30+i);obtain⟨q,A,S⟩:=gV ns (60+i);have h3:=mod_lt (x:=T / 7) (m:=3) (by decide);obtain⟨day,B⟩:∃day:Int,((i:Int) / 2+T / 7 % 3)*m=day:=⟨_,rfl⟩;obtain⟨k,r,ed,c,C⟩:=Jl ab.length o q day m zs gQ hz hh;have D:=λh=>c.had3 h;have E:=λh=>c.had4 h;have s:=mod_lt (x:=T / 21) (m:=6) (by decide);obtain⟨U,F,G⟩:=mT (ns:=[0,0,0,0,1,4]) (i:=T / 21 % 6) s.1 s.2;have H : -1000<=U/\U<=1000:=by simp only[mem_cons,not_mem_nil,or_false]at F;lia
 have I:bB (.tup (.str k::r))=true:=by simp[c.flat]
 have f:∀(ρ:DL.Env),ρ[14]? = some (sT (.str k::r))->dE 14 0 ρ=sS k:=λρ h=>bC (.tup (.str k::r)) (.int 0) (by simp[h]) rfl (by simp[D0]);have l:∀(b:Bool),decide (k = "leave" \/ k = "named")=b->bw (f2 ph (dE 14 0) (fA be (af (fS "leave") (af (fS "named") aj)))) [sL (ns.map .int),sL (zs.map .str),sI m,sI O,sI c1,lT ab,lT (gQ.map .str),sI i,v8,v9,DS,DT,sI T,sI day,sT (.str k::r)]=some b:=λb hb=>cY (bC (.str k) (.tup (([("leave" : Str),"named"]:LS).map .str)) (f _ rfl) (by simp[sizeLine]) (by rw[iu,<-hb];simp));have at_:∀(j:Nat)(p:Str),r[j]? = some (.str p)->∀ρ:DL.Env,ρ[14]? = some (sT (.str k::r))->f2 bD (ai 14) (fC (.int ((j+1:Nat):Int))) ρ=sS p:=λj p hp ρ n=>by
  have hl:j<r.length:=(vV hp).1;refine bC (.tup (.str k::r)) (.int ((j+1:Nat):Int)) (by simp[n]) rfl ?_;rw[DL.vp (by lia) (by simp;lia),show((j+1:Nat):Int).toNat=j+1 by lia,vF];show some ((r[j]?).getD .non,false)=_;rw[hp];rfl
 obtain⟨M,J,K,L⟩:∃M:LS,M≠[]/\M.length<=gQ.length+1/\∀(h:FS)(e:Option Res),h [sL (ns.map .int),sL (zs.map .str),sI m,sI O,sI c1,lT ab,lT (M.map .str),sI i,v8,v9,DS,DT,sI T,sI day,sT (.str k::r)]=e->aF (eZ (bw (f2 ph (dE 14 0) (fA be (af (fS "leave") (af (fS "named") aj))))) (km 6 (dE 14 3)) bx) (aF (eZ (bw (f2 eV (dE 14 0) (fS "chosen"))) (km 6 (dE 14 4)) bx) h) [sL (ns.map .int),sL (zs.map .str),sI m,sI O,sI c1,lT ab,lT (gQ.map .str),sI i,v8,v9,DS,DT,sI T,sI day,sT (.str k::r)]=e:=by
  by_cases hx:k = "leave" \/ k = "named"
  ·obtain⟨p,hp⟩:=D hx;have N:k ≠ "chosen":=by rcases hx with rfl|rfl<;>decide +kernel
   refine⟨gQ++[p],by simp,by simp,λh e hr=>eM (lU (l true (xq hx)) (jL (ds:=gQ.map .str) (d:=.str p) (b:=false) rfl (at_ 2 p hp _ rfl) rfl (bY (by simp;lia)))) (aE (bT (a:=k) (bb:=false) (f _ rfl) (DP N)) ?_)⟩;rw[uW]at hr;exact hr
  ·by_cases hy:k = "chosen"
   ·obtain⟨p,hp⟩:=E hy;refine⟨gQ++[p],by simp,by simp,λh e hr=>aE (l false (DP hx)) (eM (lU (bT (a:=k) (bb:=false) (f _ rfl) (xq hy)) (jL (ds:=gQ.map .str) (d:=.str p) (b:=false) rfl (at_ 3 p hp _ rfl) rfl (bY (by simp;lia)))) ?_)⟩;rw[uW]at hr;exact hr
   ·exact⟨gQ,hh,by lia,λh e hr=>aE (l false (DP hx)) (aE (bT (a:=k) (bb:=false) (f _ rfl) (DP hy)) hr)⟩
 refine⟨row (day+U*m) k r,M,sI T,sI day,sT (.str k::r),⟨⟨_,_,_,rfl,c⟩,DP C⟩,J,K,?_⟩;refine gL (.int T) (aN [.lst (ns.map .int),.int ((5+i:Nat):Int)] (by simp) w) rfl (gL (.int day) ?_ rfl (gL (.tup (.str k::r)) ?_ I (L _ _ ((jL (ds:=ab) (d:=row (day+U*m) k r) (b:=false) rfl ?_ (by simp[row,c.flat]) (bY (by lia))).trans ?_))))
 ·refine bC (.int ((i:Int) / 2+T / 7 % 3)) (.int m) (by simp) rfl ?_;rw[<-B];exact nX (by lia)
 ·refine aN [.int ab.length,.int o,.int q,.lst (zs.map .str),.int day,.lst (gQ.map .str),.int m] (cw (by simp) (aI (aN [.lst (ns.map .int),.int ((30+i:Nat):Int)] (by simp) z) (aI (aN [.lst (ns.map .int),.int ((60+i:Nat):Int)] (by simp) A) (cw rfl (cw rfl (cw rfl (cw rfl rfl))))))) ed
 ·refine aN [.int (day+U*m),.tup (.str k::r)] (cw (bC (.int day) (.int (U*m)) rfl (bC (.int U) (.int m) (fB (x:=.lst (([0,0,0,0,1,4]:LI).map .int)) (y:=.int (T / 21 % 6)) (b1:=true) (b2:=false) (by simp[sizeLine]) (by simp) G) rfl (nX H)) rfl) (cw rfl rfl)) (cI _ (by simp))
 ·simp
inductive I1 (ns:List Int)(zs:List Str)(m c1:Int):Nat->DL.Env->Prop
 |mk (ab:List D) (gQ:List Str) (v7 v8 v9 DS DT:OB) (g:∀r∈ab,cf r) (l:ab.length=2*i) (k:gQ.length=i) (o:kP ab=(zs.drop 5).take i):I1 ns zs m c1 i [sL (ns.map .int),sL (zs.map .str),sI m,sI 8,sI c1,lT ab,lT (gQ.map .str),v7,v8,v9,DS,DT,none,none,none]
theorem Jm (hz:zs.length=7)(hi:i<2)(h:I1 ns zs m c1 i ρ):∃M ρ',dj 7 (.int i) ρ=some M/\(j5 M=some (.nx ρ')\/j5 M=some (.ct ρ'))/\I1 ns zs m c1 (i+1) ρ':=by
 cases h with
 |mk ab gQ v7 v8 v9 DS DT g l k o=>
  obtain⟨b,c,p,d,f,O,T,U,a,e⟩:=Pu c1 m 8 [] zs gQ ns ab hz i (by lia) (by lia) (by lia) v8 v9 DS DT;refine⟨_,_,rfl,.inl e,.mk (ab++[b]++[c]) (gQ++[p]) _ d f O T ?_ (by simp;lia) (by simp[k]) (by rw[nY,nY,if_pos U.2.1,if_neg (by rw[a.2];decide),uQ,o,take_add_one,getElem?_drop,U.2.2];rfl)⟩;intro r hr;simp only[mem_append,mem_singleton]at hr;rcases hr with (hr|rfl)|rfl
  ·exact g r hr
  ·exact U.1
  ·exact a.1
inductive I2 (ns:List Int)(zs:List Str)(m c1:Int)(n1:Nat):Nat->DL.Env->Prop
 |mk (ab:List D) (gQ:List Str) (v7 u8 u9 Rt Ru NM NN NO:OB) (g:∀r∈ab,cf r) (l:ab.length=2*n1+i) (k:gQ≠[]) (k':gQ.length<=n1+i) (o:kP ab=(zs.drop 5).take n1):I2 ns zs m c1 n1 i [sL (ns.map .int),sL (zs.map .str),sI m,sI 8,sI c1,lT ab,lT (gQ.map .str),v7,u8,u9,Rt,Ru,NM,NN,NO]
theorem Jn (hz:zs.length=7)(hi:i<17)(hn:n1<=2)(h:I2 ns zs m c1 n1 i ρ):∃M ρ',dj 7 (.int i) ρ=some M/\(j6 M=some (.nx ρ')\/j6 M=some (.ct ρ'))/\I2 ns zs m c1 n1 (i+1) ρ':=by
 cases h with
 |mk ab gQ v7 u8 u9 Rt Ru NM NN NO g l k k' o=>
  obtain⟨b,O,T,U,c,a,d,f,e⟩:=Pw c1 m 8 zs gQ ns ab hz i (by lia) (by lia) k (by lia) u8 u9 Rt Ru NM NN NO;refine⟨_,_,rfl,.inl e,.mk (ab++[b]) O _ _ _ _ _ T U c ?_ (by simp;lia) d (by lia) (by rw[nY,if_neg (by rw[a.2];decide),uQ,o])⟩;intro r hr;simp only[mem_append,mem_singleton]at hr;rcases hr with hr|rfl
  ·exact g r hr
  ·exact a.1
theorem Go (h:I2 ns zs m c1 n1 i ρ)(hz:zs.length=7)(hn:n1<=2)(M:2*n1+i<=14):∃ab,ba (fA g9 (fV 5 aj)) ρ=some (.rt (.tup ab) false)/\(∀r∈ab,cf r)/\ab.length<=14/\kP ab=(zs.drop 5).take (kP ab).length:=by
 cases h with
 |mk ab gQ v7 u8 u9 Rt Ru NM NN NO g l k k' o=>
  refine⟨ab,ax (by simp),g,by lia,?_⟩;rw[o,length_take];congr 1;rw[length_drop];lia
theorem Wv (h:I1 ns zs m c1 n1 ρ)(hn:0<n1):I2 ns zs m c1 n1 0 ρ:=by
 cases h with
 |mk ab gQ v7 v8 v9 DS DT g l k o=>exact .mk ab gQ v7 v8 v9 DS DT none none none g (by lia) (λe=>by rw[e]at k;simp at k;lia) (by lia) o
theorem Jo (ns:LI)(zs:LS)(hz:zs.length=7)(m:Int):∃ab:LD,rE [.lst (ns.map .int),.lst (zs.map .str),.int m,.int 8]=sT ab/\(∀r∈ab,cf r)/\ab.length<=14/\kP ab=(zs.drop 5).take (kP ab).length:=by
 obtain⟨c1,a,h1⟩:=gV ns 1;obtain⟨M,e2,h2⟩:=gV ns 2;have k:=mod_lt (x:=c1) (m:=2) (by decide);have l:=mod_lt (x:=M) (m:=8) (by decide);obtain⟨n1,n⟩:∃n1:Nat,1+c1 % 2=n1:=⟨(1+c1 % 2).toNat,by lia⟩;obtain⟨n2,O⟩:∃n2:Nat,3+M % 8=n2:=⟨(3+M % 8).toNat,by lia⟩;obtain⟨c,f1,U⟩:=qN (tg:=dj 7) (g:=j5) n1 (I1 ns zs m c1) _ (.mk [] [] none none none none none (by simp) rfl rfl rfl) λi ρ hi h=>Jm hz (by lia) h;obtain⟨d,T,f⟩:=qN (tg:=dj 7) (g:=j6) n2 (I2 ns zs m c1 n1) _ (Wv U (by lia)) λi ρ hi h=>Jn hz (by lia) (by lia) h;obtain⟨ab,e,g⟩:=Go f hz (by lia) (by lia);refine⟨ab,av rfl (gL (.int c1) (aN [.lst (ns.map .int),.int ((1:Nat):Int)] (by simp) a) rfl (de (ds:=[]) (by simp[sizeLine]) rfl (de (ds:=[]) (by simp[sizeLine]) rfl (eM (qS (jz (j:=n1) (b:=false) (by simp;lia) (by lia)) f1) (eM (qS (jz (j:=n2) (b:=false) ?_ (by lia)) T) e))))),g⟩;cases U with
 |mk=>
  refine bC (.int 3) (.int (M % 8)) rfl (bC (.int M) (.int 8) (aN [.lst (ns.map .int),.int ((2:Nat):Int)] (by simp) e2) rfl (by simp)) ?_;rw[<-O];rfl
theorem uG (a b:Nat):io [.int a,.int b]=sO (decide (a &&& b=b)):=by
 have:Builtin.bitAnd (a:Int) (b:Int)=((a &&& b:Nat):Int):=by simp[Builtin.bitAnd]
 simp[io,ri,this];lia
def iI (r:D):Nat:=(if kindOf r = "root" then fY 1 r else if kindOf r = "leave" then fY 3 r else fY 2 r).toNat
theorem fT (a:Int)(k:Str)(aH:LD):kindOf (row a k aH)=k:=rfl
noncomputable def fm:LS:=[("leave" : Str),"paper","like"]
theorem sk (g:cf r)(h:bi r=true):∃a o rl,∃m:Nat,∃f:Int,r=row a ("root" : Str) [.str o,.int m,.int f,.str rl]/\m∈MR/\iI r=m:=by
 obtain⟨a,k,aH,rfl,d⟩:=g;have hk:k = "root":=DQ h;clear h;cases d with
 |root o rl m hm f=>exact⟨a,o,rl,m,f,rfl,hm,by unfold iI;rw[fT,if_pos rfl];rfl⟩
 |named=>exact cV hk
 |chosen=>exact cV hk
 |heir=>exact cV hk
 |three k M=>rcases M with rfl|rfl|rfl<;>exact cV hk
 |leave=>exact cV hk
 |paper k M=>rcases M with rfl|rfl<;>exact cV hk
 |copy k M=>rcases M with rfl|rfl<;>exact cV hk
theorem Cb (g:cf r)(h:bi r=true):aq [r,.str "matters"]=sI (iI r):=by
 obtain⟨a,o,rl,m,f,rfl,_,e⟩:=sk g h;rw[e];exact bz (i:=1) dq rfl
theorem M3 {a:Int}{k:Str}{aH:LD}(d:Dd k aH)(h:k∈fm):iI (row a k aH)∈MS/\(∃i:Nat,pq gS (.str k) (.str "matters")=sI i/\aH[i]? = some (.int (iI (row a k aH))))/\(D.str k::aH).getD (3+if k = "leave" then 1 else 0) .non=.int (iI (row a k aH))/\(3+if k = "leave" then 1 else 0)<(D.str k::aH).length:=by
 cases d with
 |leave d b p m hm x f=>
  have e:iI (row a ("leave" : Str) [.int d,.str b,.str p,.int m,iH x,.int f])=m:=by unfold iI;rw[fT,if_neg (by decide +kernel),if_pos rfl];rfl
  rw[e];refine⟨hm,⟨3,dq,rfl⟩,?_,?_⟩
  ·rw[if_pos rfl];rfl
  ·rw[if_pos rfl];simp
 |paper k hk d b m hm x r hf hp=>
  have hl:k ≠ "leave":=by rcases hk with rfl|rfl<;>decide +kernel
  have hr:k ≠ "root":=by rcases hk with rfl|rfl<;>decide +kernel
  have e:iI (row a k (.int d::.str b::.int m::iH x::r))=m:=by unfold iI;rw[fT,if_neg hr,if_neg hl];rfl
  rw[e];refine⟨hm,⟨2,by rcases hk with rfl|rfl<;>exact dq,rfl⟩,?_,?_⟩
  ·rw[if_neg hl];rfl
  ·rw[if_neg hl];simp
 |root=>exact cV h
 |named=>exact cV h
 |chosen=>exact cV h
 |heir=>exact cV h
 |three k M=>rcases M with rfl|rfl|rfl<;>exact cV h
 |copy k M=>rcases M with rfl|rfl<;>exact cV h
theorem xa (g:cf r)(h:kindOf r∈fm):aq [r,.str "matters"]=sI (iI r):=by
 obtain⟨a,k,aH,rfl,d⟩:=g;obtain⟨_,⟨i,h1,h2⟩,_⟩:=M3 (a:=a) d h;exact bz h1 h2
noncomputable def bu:LS:=[("leave" : Str),"paper","like","copy"]
theorem jT (h:k∈bu\/k = "call"):dZ k=true:=by
 rw[rL];refine xq ?_;rcases h with h|rfl
 ·have:∀k∈bu,k∈yW:=by decide +kernel
  exact this k h
 ·decide +kernel
theorem Jp {k:Str}{aH:LD}(d:Dd k aH)(h:dZ k=true):∃(dd:Int)(b:Str)(r:LD),aH=.int dd::.str b::r:=d.cd.deed.slg h
theorem Cc (g:cf r)(h:dZ (kindOf r)=true):aq [r,.str "by"]=sS (cW r):=by
 obtain⟨a,k,aH,rfl,d⟩:=g;obtain⟨dd,b,q,rfl⟩:=Jp d h;exact bz (i:=1) (FY h) rfl
noncomputable def bM (K:KL):LD:=(K.filter λx=>bi x.1).map (·.1)
theorem zh:∀(l:List (dO×D))(a:LK×LD),(a.1++l.map (·.1)).Nodup->l.foldl qF a=(a.1++l.map (·.1),a.2++l.map (·.2))
 |[],a,_=>by simp
 |p::l,a,h=>by
  have hn:p.1∉a.1:=by
   rw[uY,nodup_append]at h;exact λz=>h.2.2 _ z _ mX rfl
  have e:qF a p=(a.1++[p.1],a.2++[p.2]):=by unfold qF dL dM;rw[if_neg hn,if_neg hn]
  rw[foldl_cons,e,zh l _ (by rw[append_assoc];exact h)];simp
section
variable {K:KL}(hn:((bM K).map (az 0)).Nodup)
include hn
theorem sn:cj (mP K)=((bM K).map λv=>(.inr (az 0 v):dO),bM K):=by
 have e:mP K=(bM K).map λv=>((.inr (az 0 v):dO),v):=by unfold mP bM;rw[uP];rfl
 have M:((bM K).map λv=>(.inr (az 0 v):dO)).Nodup:=by
  refine pairwise_map.mpr ((pairwise_map.mp hn).imp λh z=>h (Sum.inr.inj z))
 rw[e];unfold cj;rw[zh _ _ (by rw[uP];exact M),uP,uP];simp only[nil_append];congr 1;exact map_id _
end
noncomputable def Jq (j:Nat):D->Int×OI
 |.tup [_,.tup (_::aH)]=>match aH[j]? with
  |some (.tup [.int s,.int u])=>(s,some u)
  |some (.tup [.int s,.non])=>(s,none)
  |_=>(0,none)
 |_=>(0,none)
theorem xc {h:Int}{k:Str}{aH:LD}{j:Nat}{x:Int×OI}(e:aH[j]? = some (iH x)):Jq j (row h k aH)=x:=by
 unfold Jq row;simp only[e];obtain⟨s,u⟩:=x;cases u<;>rfl
def gH (r:D):Int×OI:=if kindOf r = "leave" then Jq 4 r else Jq 3 r
def iE (r:D):Int:=if kindOf r = "root" then fY 2 r else fY 5 r
def mU (r:D):Bool:=decide (kindOf r = "leave")
theorem oZ {r:D}(g:cf r)(h:kindOf r = "leave"):∃a d b p,∃m:Nat,∃x f,r=row a ("leave" : Str) [.int d,.str b,.str p,.int m,iH x,.int f]/\m∈MS/\iI r=m/\gH r=x/\iE r=f:=by
 obtain⟨a,k,aH,rfl,d⟩:=g;have hk:k = "leave":=h;clear h;cases d with
 |leave d b p m hm x f=>exact⟨a,d,b,p,m,x,f,rfl,hm,by unfold iI;rw[fT,if_neg (by decide +kernel),if_pos rfl];rfl,by unfold gH;rw[fT,if_pos rfl];exact xc rfl,by unfold iE;rw[fT,if_neg (by decide +kernel)];rfl⟩
 |root=>exact cV hk
 |named=>exact cV hk
 |chosen=>exact cV hk
 |heir=>exact cV hk
 |three k M=>rcases M with rfl|rfl|rfl<;>exact cV hk
 |paper k M=>rcases M with rfl|rfl<;>exact cV hk
 |copy k M=>rcases M with rfl|rfl<;>exact cV hk
theorem Jr {a:Int}{k:Str}{aH:LD}(d:Dd k aH)(h:k∈fm):(∃i:Nat,pq gS (.str k) (.str "stretch")=sI i/\aH[i]? = some (iH (gH (row a k aH))))/\(D.str k::aH).getD (4+if k = "leave" then 1 else 0) .non=iH (gH (row a k aH))/\(4+if k = "leave" then 1 else 0)<(D.str k::aH).length:=by
 cases d with
 |leave d b p m hm x f=>
  have e:gH (row a ("leave" : Str) [.int d,.str b,.str p,.int m,iH x,.int f])=x:=by unfold gH;rw[fT,if_pos rfl];exact xc rfl
  rw[e,if_pos rfl];exact⟨⟨4,dq,rfl⟩,rfl,by simp⟩
 |paper k hk d b m hm x r hf hp=>
  have hl:k ≠ "leave":=by rcases hk with rfl|rfl<;>decide +kernel
  have e:gH (row a k (.int d::.str b::.int m::iH x::r))=x:=by unfold gH;rw[fT,if_neg hl];exact xc rfl
  rw[e,if_neg hl];exact⟨⟨3,by rcases hk with rfl|rfl<;>exact dq,rfl⟩,rfl,by simp⟩
 |root=>exact cV h
 |named=>exact cV h
 |chosen=>exact cV h
 |heir=>exact cV h
 |three k M=>rcases M with rfl|rfl|rfl<;>exact cV h
 |copy k M=>rcases M with rfl|rfl<;>exact cV h
theorem Ce (g:cf r)(h:kindOf r∈fm):aq [r,.str "stretch"]=some (iH (gH r),false):=by
 obtain⟨a,k,aH,rfl,d⟩:=g;obtain⟨⟨i,h1,h2⟩,_⟩:=Jr (a:=a) d h;exact bz h1 h2
theorem xf (h:kindOf r = "leave"):kindOf r∈fm:=by rw[h];decide +kernel
theorem K3 (g:cf r)(h:bi r=true\/kindOf r = "leave"):aq [r,.str "further"]=sI (iE r):=by
 rcases h with h|h
 ·obtain⟨a,o,rl,m,f,rfl,_,_⟩:=sk g h;rw[show iE (row a ("root" : Str) [.str o,.int m,.int f,.str rl])=f by unfold iE;rw[fT,if_pos rfl];rfl];exact bz (i:=2) dq rfl
 ·obtain⟨a,d,b,p,m,x,f,e,_,_,_,M⟩:=oZ g h;rw[M,e];exact bz (i:=5) dq rfl
def sq (r v:D):Bool:=decide (iI v &&& iI r=iI r) && !(mU r && decide (iE v<=iE r))
def nZ (r v:D):D:=if decide (iI v &&& iI r=iI r)=true then (if(mU r && decide (iE v<=iE r))=true then .str "further" else .non)else .str "matters"
theorem zi (T:cf r)(U:cf v)(f:kindOf r∈fm)(kv:bi v=true\/kindOf v = "leave"):∃d,iQ [r,v]=some (d,false)/\DX d .non=sO (sq r v)/\d=nZ r v:=by
 have g:aq [v,.str "matters"]=sI (iI v):=kv.elim (Cb U) λh=>xa U (xf h);have b:bw (fA io (af (fA aq (fV 1 (af (fS "matters") aj))) (af (fA aq (fV 0 (af (fS "matters") aj))) aj))) [some (r,false),some (v,false)]=some (decide (iI v &&& iI r=iI r)):=cY (aN [.int (iI v),.int (iI r)] (aI (aN [v,.str "matters"] rfl g) (aI (aN [r,.str "matters"] rfl (xa T f)) rfl)) (uG _ _));have i:bw (f2 eV (fA aO (fV 0 aj)) (fS "leave")) [some (r,false),some (v,false)]=some (mU r):=bT (a:=kindOf r) (bb:=false) (aN [r] rfl (je T.c)) rfl;have j:mU r=true->bw (f2 RO (fA aq (fV 0 (af (fS "further") aj))) (fA aq (fV 1 (af (fS "further") aj)))) [some (r,false),some (v,false)]=some (decide (iE v<=iE r)):=λh=>cY (bC (.int (iE r)) (.int (iE v)) (aN [r,.str "further"] rfl (K3 T (.inr (DQ h)))) (aN [v,.str "further"] rfl (K3 U kv)) rfl);have e:=fw i j;unfold sq;cases M:decide (iI v &&& iI r=iI r) with
 |false=>exact⟨.str "matters",av rfl (bA (bX (p:=false) (b.trans (by rw[M]))) (ax rfl)),rfl,by simp only[nZ,M];rfl⟩
 |true=>
  cases O:(mU r && decide (iE v<=iE r)) with
  |true=>exact⟨.str "further",av rfl (aE (bX (p:=true) (b.trans (by rw[M]))) (bA (e.trans (by rw[O])) (ax rfl))),rfl,by simp only[nZ,M,O];rfl⟩
  |false=>exact⟨.non,av rfl (aE (bX (p:=true) (b.trans (by rw[M]))) (aE (e.trans (by rw[O])) (ax rfl))),rfl,by simp only[nZ,M,O];rfl⟩
theorem sr (h:k∈fm):k∈bu:=by
 have:∀k∈fm,k∈bu:=by decide +kernel
 exact this k h
theorem iV (h:kindOf r∈fm):bi r=false:=by
 have:∀k∈fm,decide (k = "root")=false:=by decide +kernel
 exact this _ h
theorem su (g:cf r)(h:bi r=false):aV [r]=sI (aG r):=by
 have:=rM g.c;unfold tq at this;rwa [h,if_neg (by decide)]at this
def sv (cs:List Cl)(r v:D):Bool:=iC cs (az 0 v) (az 3 v) (cW r) (aG r) && sq r v
def Gp (cs:List Cl)(r v:D):D:=if iC cs (az 0 v) (az 3 v) (cW r) (aG r)=true then nZ r v else .str "holder"
theorem Js (cs:List Cl)(O:cs.length<=60)(T:cf r)(b:cf v)(U:kindOf r∈fm)(hv:bi v=true):∃d,gU [.lst (cs.map aY),r,v]=some (d,false)/\DX d .non=sO (sv cs r v)/\d=Gp cs r v:=by
 obtain⟨d,e,e2,g⟩:=zi T b U (.inl hv);have c:bw (fA cP (fV 0 (fV 2 (af (fA aq (fV 1 (af (fS "by") aj))) (af (fA aV (fV 1 aj)) aj))))) [sL (cs.map aY),some (r,false),some (v,false)]=some (iC cs (az 0 v) (az 3 v) (cW r) (aG r)):=by
  refine cY (aN [.lst (cs.map aY),v,.str (cW r),.int (aG r)] (cw rfl (cw rfl (aI (aN [r,.str "by"] rfl (Cc T (jT (.inl (sr U))))) (aI (aN [r] rfl (su T (iV U))) rfl)))) ?_);obtain⟨a,o,rl,m,f,rfl,_,_⟩:=sk b hv;exact wT cs O _ _
 unfold sv;cases M:iC cs (az 0 v) (az 3 v) (cW r) (aG r) with
 |false=>exact⟨.str "holder",av rfl (bA (bX (p:=false) (c.trans (by rw[M]))) (ax rfl)),rfl,by simp only[Gp,M];rfl⟩
 |true=>exact⟨d,av rfl (aE (bX (p:=true) (c.trans (by rw[M]))) (ax (aN [r,v] rfl e))),e2,by rw[g];simp only[Gp,M];rfl⟩
def Gq (cs:List Cl)(r v:D):Int:=match jW cs (az 0 v) (az 3 v) (aG r) with
 |.tup [_,_,.int n]=>n
 |_=>0
theorem Gr (h:iC cs o rl p day=true):∃n:Int,jW cs o rl day=.tup [.str "one",.str p,.int n]:=by
 unfold iC jW at h;unfold jW;generalize NB cs o day=M at h |-;cases M with
 |nil=>
  have h:cJ (.tup [.str "none"]) (.tup [.str "one",.str p])=true:=h;simp[fJ]at h
 |cons b r=>
  rw[oW]at h |-;split at h
  ·have h:cJ (.tup [.str "parted",.lst ((mf (b::r)).map .str)]) (.tup [.str "one",.str p])=true:=h;simp[fJ]at h
  ·rename_i hn;rw[if_neg hn];have h:cJ (.tup [.str "one",.str (iB rl b r).p]) (.tup [.str "one",.str p])=true:=h;have h:(iB rl b r).p=p:=by simpa [fJ]using h
   exact⟨_,by rw[h]⟩
theorem Jt (h:iC cs (az 0 v) (az 3 v) (cW r) (aG r)=true):jW cs (az 0 v) (az 3 v) (aG r)=.tup [.str "one",.str (cW r),.int (Gq cs r v)]:=by
 obtain⟨n,e⟩:=Gr h;unfold Gq;rw[e]
def M4 (cs:List Cl)(r v:D):D:=.tup [.str "office",.str (az 0 v),.int (Gq cs r v)]
theorem sw (g:∀r∈ab,cf r)(hv:v∈bM (ak ab aa)):cf v/\bi v=true:=by
 obtain⟨x,hx,rfl⟩:=vO hv;obtain⟨h1,h2⟩:=vN hx;exact⟨g _ (vL (br h1)),h2⟩
theorem Gs (hl:ab.length<=60)(aa:Int):(bM (ak ab aa)).length<=60:=by
 unfold bM;rw[vI];exact vR (vM _ _) (vR (cq ab aa) hl)
theorem DA {ab:LD}(g:∀r∈ab,cf r)(hl:ab.length<=60)(aa:Int)(hn:((bM (ak ab aa)).map (az 0)).Nodup)(cs:List Cl)(O:cs.length<=60){T:Nat}{r:D}(hr:ab[T]? = some r)(h:kindOf r∈fm):
  iq [.tup ab,.int aa,.lst (cs.map aY),.int T]=lT (((bM (ak ab aa)).filter (sv cs r)).map (M4 cs r)):=by
 have i:gG ab:=⟨hl,λr hr=>(g r hr).c⟩;have b:=g r (vL hr);have p:=Gs hl aa;have h1:=fX (fi:=qK (fA gw (fV 0 (fV 1 aj)))) (nT:=1) (cap:=[2,4]) (tg:=dj 0) (c:=bw (f2 DX (fA gU (fV 1 (fV 2 (fV 0 aj)))) (fC .non))) (fe:=ai 0)
  (ρ:=[sT ab,sI aa,sL (cs.map aY),sI T,some (r,false),none]) (bM (ak ab aa)) id (sv cs r) id
  (by show(fA gw _ _).bind _=_;rw[aN [.tup ab,.int aa] rfl (rX i aa),sn hn];simp) (by lia) λv hv=>by
   obtain⟨e,M⟩:=sw g hv;obtain⟨d,j,e2,_⟩:=Js cs O b e h M;exact⟨[some (v,false),sL (cs.map aY),some (r,false)],rfl,cY (bC d .non (aN [.lst (cs.map aY),r,v] rfl j) rfl e2),λ_=>⟨false,rfl⟩⟩
 rw[map_id]at h1;have k:bE ((bM (ak ab aa)).filter (sv cs r))=true:=bZ λv hv=>(sw g (vN hv).1).1.flat;refine av rfl (gL r (bC (.tup ab) (.int T) rfl rfl (by simp[cD hr])) b.flat (de h1 k (ax ?_)));refine kB (fi:=cn (ai 5)) (nT:=1) (cap:=[2,4]) (tg:=dj 0) (fe:=fA be (af (fS "office") (af (fA aq (fV 0 (af (fS "office") aj))) (af (f2 bD (fA dW (fV 1 (fV 0 (af (fA aV (fV 2 aj)) aj)))) (fI 2)) aj))))
  (ρ:=[sT ab,sI aa,sL (cs.map aY),sI T,some (r,false),lT ((bM (ak ab aa)).filter (sv cs r))]) ((bM (ak ab aa)).filter (sv cs r)) id (M4 cs r) (by simp) (vR (vM _ _) (by lia)) λv hv=>?_
 obtain⟨l,n⟩:=vN hv;obtain⟨e,M⟩:=sw g l;have U:(iC cs (az 0 v) (az 3 v) (cW r) (aG r) && sq r v)=true:=n;rw[vC]at U;have hh:=Jt U.1;refine⟨[some (v,false),sL (cs.map aY),some (r,false)],rfl,false,?_⟩;obtain⟨a,o,rl,m,f,rfl,_,_⟩:=sk e M;refine aN [.str "office",.str o,.int (Gq cs r _)] (cw rfl (aI (aN [row a ("root" : Str) [.str o,.int m,.int f,.str rl],.str "office"] rfl kM) (cw (bC (jW cs o rl (aG r)) (.int 2) (aN [.lst (cs.map aY),row a ("root" : Str) [.str o,.int m,.int f,.str rl],.int (aG r)] (cw rfl (cw rfl (aI (aN [r] rfl (su b (iV h))) rfl))) (mO cs O _)) rfl ?_) rfl))) (cI _ (by simp));have hh:jW cs o rl (aG r)=_:=hh;rw[hh];simp[U0]
noncomputable def Cf (day:Int)(x:Int×OI):Bool:=decide (x.1<=day) && (match x.2 with|none=>true|some u=>decide (day<u))
noncomputable def Px:OI->OI->Bool
 |_,none=>true
 |none,some _=>false
 |some x,some y=>decide (x<=y)
theorem Ju (a b:OI):jc [uD a,uD b]=sO (Px a b):=by
 cases b with
 |none=>exact av rfl (bA (cY (by simp[uD])) (ax (by cases a<;>rfl)))
 |some y=>
  refine av rfl (aE (cY (by simp[uD])) (ax ?_));cases a with
  |none=>exact dQ (p:=false) (q:=false) (b1:=false) (by simp[uD]) (by simp)
  |some x=>exact dQ (p:=true) (q:=decide (x<=y)) (b1:=false) (by simp[uD]) λ_=>by simp[uD]
def Gu (a b:Int×OI):Bool:=decide (b.1<=a.1) && Px a.2 b.2
theorem M5 (a b:Int×OI):iR [iH a,iH b]=sO (Gu a b) :=
 av rfl (ax (dQ (b1:=false) (by simp[iH,D0]) λ_=>aN [uD a.2,uD b.2] (cw (by simp[iH,BN]) (cw (by simp[iH,BN]) rfl)) (Ju _ _)))
theorem K4 {ab:LD}{i:Nat}{r:D}(hr:ab[i]? = some r)(g:cf r)(h:bi r=false):fD [.tup ab,.int i]=sT [.int (aG r),.int i] :=
 av rfl (ax (aN [.int (aG r),.int i] (cw (aN [r] (by simp[cD hr]) (su g h)) rfl) (by simp[sizeLine])))
theorem Sq (a b c d:Int):KU (.tup [.int a,.int b]) (.tup [.int c,.int d])=sO (decide (a<c\/(a=c/\b<d))):=by
 show(bq [.i a,.i b] [.i c,.i d]).map _=_;rw[M0];rfl
theorem zj {ab:LD}{i j:Nat}{x y:D}(hx:ab[i]? = some x)(hy:ab[j]? = some y)(M:cf x)(O:cf y)(nx:bi x=false)(T:bi y=false):gm [.tup ab,.int i,.int j]=sO (bQ (x,i) (y,j)) :=
 av rfl (ax (bC (.tup [.int (aG x),.int i]) (.tup [.int (aG y),.int j]) (aN [.tup ab,.int i] rfl (K4 hx M nx)) (aN [.tup ab,.int j] rfl (K4 hy O T)) (Sq _ _ _ _)))
def xh (r:D)(M:Nat)(x:D×Nat):Bool:=bQ x (r,M) && ((Cf (aG r) (gH x.1) && Gu (gH r) (gH x.1)) && sq r x.1)
def Cg (r:D)(M:Nat)(x:D×Nat):D:=if bQ x (r,M)=true then (if(Cf (aG r) (gH x.1) && Gu (gH r) (gH x.1))=true then nZ r x.1 else .str "days")else .str "order"
theorem Jv {ab:LD}{O M:Nat}{r l:D}(hr:ab[O]? = some r)(hl:ab[M]? = some l)(U:cf r)(b:cf l)(c:kindOf r∈fm)(e:kindOf l = "leave"):∃d,iS [.tup ab,.int O,.int M]=some (d,false)/\DX d .non=sO (xh r O (l,M))/\d=Cg r O (l,M):=by
 have g:=iV c;have m:=iV (xf e);obtain⟨d,n,e2,o⟩:=zi U b c (.inr e);let E:DL.Env:=[sT ab,sI O,sI M,some (r,false),some (iH (gH l),false)];have i:∀ρ:DL.Env,ρ[0]? = some (sT ab)->ρ[2]? = some (sI M)->f2 bD (ai 0) (ai 2) ρ=some (l,false):=λρ h0 h2=>bC (.tup ab) (.int M) (by simp[h0]) (by simp[h2]) (by simp[cD hl]);have f:bw (fA gm (fV 0 (fV 2 (fV 1 aj)))) E=some (bQ (l,M) (r,O)):=cY (aN [.tup ab,.int M,.int O] rfl (zj hl hr b U m g));have q:bw (fA j0 (af (fA aV (fV 3 aj)) (fV 4 aj))) E=some (Cf (aG r) (gH l)):=cY (aN [.int (aG r),iH (gH l)] (aI (aN [r] rfl (su U g)) (cw rfl rfl)) (BR _ _ _));have s:bw (fA iR (af (fA aq (fV 3 (af (fS "stretch") aj))) (fV 4 aj))) E=some (Gu (gH r) (gH l)):=cY (aN [iH (gH r),iH (gH l)] (aI (aN [r,.str "stretch"] rfl (Ce U c)) (cw rfl rfl)) (M5 _ _));have j:=cC (bX q) λ_=>bX s;have go:∀(h:FS)(res:Option Res),h E=res->aF (aW 3 (f2 bD (ai 0) (ai 1))) (aF (aW 4 (fA aq (af (f2 bD (ai 0) (ai 2)) (af (fS "stretch") aj)))) h) [sT ab,sI O,sI M,none,none]=res:=λh res k=>
  gL r (bC (.tup ab) (.int O) rfl rfl (by simp[cD hr])) U.flat (gL (iH (gH l)) (aN [l,.str "stretch"] (aI (i _ rfl rfl) rfl) (Ce b (xf e))) (jA _) k)
 unfold xh;cases T:bQ (l,M) (r,O) with
 |false=>exact⟨.str "order",av rfl (go _ _ (bA (bX (p:=false) (f.trans (by rw[T]))) (ax rfl))),rfl,by simp only[Cg,T];rfl⟩
 |true=>
  cases a:(Cf (aG r) (gH l) && Gu (gH r) (gH l)) with
  |false=>exact⟨.str "days",av rfl (go _ _ (aE (bX (p:=true) (f.trans (by rw[T]))) (bA (j.trans (by rw[<-Bool.not_and,a];rfl)) (ax rfl)))),rfl,by simp only[Cg,T,a];rfl⟩
  |true=>exact⟨d,av rfl (go _ _ (aE (bX (p:=true) (f.trans (by rw[T]))) (aE (j.trans (by rw[<-Bool.not_and,a];rfl)) (ax (aN [r,l] (cw rfl (aI (i _ rfl rfl) rfl)) n))))),e2,by rw[o];simp only[Cg,T,a];rfl⟩
theorem mi {ab:LD}{aa:Int}{i:Nat}{r:D}(hr:ab[i]? = some r)(g:cf r):gk [.tup ab,.int aa,.int i]=sO (decide (aU r<=aa) && mU r):=by
 have M:cH [.tup ab,.int aa,.int i]=sO (decide (aU r<=aa)):=by
  obtain⟨a,k,aH,rfl,d⟩:=g;exact kL hr aa
 exact av rfl (ax (dQ (aN [.tup ab,.int aa,.int i] rfl M) λ_=>bC (.str (kindOf r)) (.str "leave") (aN [r] (cw (bC (.tup ab) (.int i) rfl rfl (by simp[cD hr])) rfl) (je g.c)) rfl (by simp[mU])))
noncomputable def pz (K:KL)(p:Str):KL:=(K.filter λx=>mU x.1).filter λx=>decide (az 2 x.1=p)
theorem sx (g:∀r∈ab,cf r)(h:x∈pz (ak ab aa) p):ab[x.2]? = some x.1/\cf x.1/\kindOf x.1 = "leave":=by
 obtain⟨h1,_⟩:=vN h;obtain⟨h2,h3⟩:=vN h1;exact⟨br h2,g _ (vL (br h2)),DQ h3⟩
theorem DB {ab:LD}(g:∀r∈ab,cf r)(hl:ab.length<=60)(aa:Int)(p:Str):kI [.tup ab,.int aa,.str p]=lT ((pz (ak ab aa) p).map λx=>.int x.2):=by
 have O:=cq ab aa;have h1:=fX (fi:=cn (fA cK (fV 0 (fV 1 aj)))) (nT:=1) (cap:=[0,1]) (tg:=dj 0) (c:=bw (fA gk (fV 1 (fV 2 (fV 0 aj))))) (fe:=ai 0)
  (ρ:=[sT ab,sI aa,sS p,none]) (ak ab aa) (λx=>.int x.2) (λx=>mU x.1) (λx=>.int x.2)
  (by show(fA cK _ _).bind _=_;rw[aN [.tup ab,.int aa] rfl (kK ab (λr hr=>(g r hr).c.rp) (by lia) aa)];rfl) (by lia) λx hx=>by
   have hk:decide (aU x.1<=aa)=true:=(vN hx).2;have:=mi (aa:=aa) (br hx) (g _ (vL (br hx)));rw[hk,Bool.true_and]at this;exact⟨_,rfl,cY (aN [.tup ab,.int aa,.int x.2] rfl this),λ_=>⟨false,rfl⟩⟩
 have M:bE (((ak ab aa).filter λx=>mU x.1).map λx=>D.int x.2)=true:=bZ λd hd=>by obtain⟨x,_,rfl⟩:=vO hd;rfl
 refine av rfl (de h1 M (ax ?_));refine fX (fi:=cn (ai 3)) (nT:=1) (cap:=[2,0]) (tg:=dj 0) (c:=bw (f2 eV (fA aq (af (f2 bD (ai 2) (ai 0)) (af (fS "person") aj))) (ai 1))) (fe:=ai 0)
  (ρ:=[sT ab,sI aa,sS p,lT (((ak ab aa).filter λx=>mU x.1).map λx=>.int x.2)]) ((ak ab aa).filter λx=>mU x.1) (λx=>.int x.2) (λx=>decide (az 2 x.1=p)) (λx=>.int x.2) (by simp) (vR (vM _ _) (by lia)) λx hx=>?_
 obtain⟨h2,h3⟩:=vN hx;obtain⟨a,d,b,q,m,st,f,e,_⟩:=oZ (g _ (vL (br h2))) (DQ h3);refine⟨[sI x.2,sS p,sT ab],rfl,cY (bC (.str (az 2 x.1)) (.str p) (aN [x.1,.str "person"] (cw (bC (.tup ab) (.int x.2) rfl rfl (by simp[cD (br h2)])) rfl) ?_) rfl (by simp)),λ_=>⟨false,rfl⟩⟩;rw[e];exact bz (i:=2) dq rfl
theorem DC {ab:LD}(g:∀r∈ab,cf r)(hl:ab.length<=60)(aa:Int){M:Nat}{r:D}(hr:ab[M]? = some r)(T:kindOf r∈fm):
  jd [.tup ab,.int aa,.int M]=lT (((pz (ak ab aa) (cW r)).filter (xh r M)).map λx=>.tup [.str "leave",.int x.2]):=by
 have U:=g r (vL hr);have b:=cq ab aa;have e:(pz (ak ab aa) (cW r)).length<=60:=vR (vM _ _) (vR (vM _ _) (by lia));have O:bE ((pz (ak ab aa) (cW r)).map λx=>D.int x.2)=true:=bZ λd hd=>by obtain⟨x,_,rfl⟩:=vO hd;rfl
 refine av rfl (de (ds:=(pz (ak ab aa) (cW r)).map λx=>.int x.2) (aN [.tup ab,.int aa,.str (cW r)] (cw rfl (cw rfl (aI (aN [r,.str "by"] (cw (bC (.tup ab) (.int M) rfl rfl (by simp[cD hr])) rfl) (Cc U (jT (.inl (sr T))))) rfl))) (DB g hl aa _)) O (ax ?_));refine fX (fi:=cn (ai 3)) (nT:=1) (cap:=[0,2]) (tg:=dj 0) (c:=bw (f2 DX (fA iS (fV 1 (fV 2 (fV 0 aj)))) (fC .non))) (fe:=fA be (af (fS "leave") (fV 0 aj)))
  (ρ:=[sT ab,sI aa,sI M,lT ((pz (ak ab aa) (cW r)).map λx=>.int x.2)]) (pz (ak ab aa) (cW r)) (λx=>.int x.2) (xh r M) (λx=>.tup [.str "leave",.int x.2]) (by simp) (by lia) λx hx=>?_
 obtain⟨h1,h2,h3⟩:=sx g hx;obtain⟨d,a,e2,_⟩:=Jv hr h1 U h2 T h3;exact⟨[sI x.2,sT ab,sI M],rfl,cY (bC d .non (aN [.tup ab,.int M,.int x.2] rfl a) rfl e2),λ_=>⟨false,aN [.str "leave",.int x.2] rfl (cI _ (by simp))⟩⟩
abbrev Bs:=Option Str×Int
noncomputable def zC:Bs->D
 | (some o,n)=>.tup [.str "office",.str o,.int n]
 | (none,n)=>.tup [.str "leave",.int n]
noncomputable def zk:Bs->List At
 | (some o,n)=>[.i n,.s ("office" : Str),.s o,.i n]
 | (none,n)=>[.i n,.s ("leave" : Str),.i n]
theorem Gv (b:Bs):bB (zC b)=true:=by rcases b with⟨_|o,n⟩<;>rfl
theorem Jw (b:Bs):bD (zC b) (.int (-1))=sI b.2:=by rcases b with⟨_|o,n⟩<;>rfl
theorem Gw (a b:Bs):(bq (zk a) (zk b)).isSome=true:=by
 have O:("office" : Str) ≠ "leave":=by decide +kernel
 rcases a with⟨_|o,n⟩<;>rcases b with⟨_|o',M⟩
 ·show(bq [.i n,.s ("leave" : Str),.i n] [.i M,.s ("leave" : Str),.i M]).isSome=true;rw[bq];split
  ·rw[bq,if_pos rfl,bq];split
   ·rw[bq];rfl
   ·rfl
  ·rfl
 ·show(bq [.i n,.s ("leave" : Str),.i n] [.i M,.s ("office" : Str),.s o',.i M]).isSome=true;rw[bq];split
  ·rw[bq,if_neg (Ne.symm O)];rfl
  ·rfl
 ·show(bq [.i n,.s ("office" : Str),.s o,.i n] [.i M,.s ("leave" : Str),.i M]).isSome=true;rw[bq];split
  ·rw[bq,if_neg O];rfl
  ·rfl
 ·show(bq [.i n,.s ("office" : Str),.s o,.i n] [.i M,.s ("office" : Str),.s o',.i M]).isSome=true;rw[bq];split
  ·rw[bq,if_pos rfl,bq];split
   ·rw[bq];split
    ·rw[bq];rfl
    ·rfl
   ·rfl
  ·rfl
theorem Jx (h:zk a=zk b):a=b:=by
 rcases a with⟨_|o,n⟩<;>rcases b with⟨_|o',M⟩<;>simp[zk]at h
 ·rw[h]
 ·rw[h.1,h.2.1]
theorem Ch (l:List Bs):eK (l.map zk)=true:=by
 unfold eK;simp[all_eq_true,Gw]
theorem Gx (e:cM (zk a)=cM (zk b)):a=b:=Jx (nI (Ch [a,b]) (by simp) (by simp) e)
def U1 (cs:List Cl)(r v:D):Bs:=(some (az 0 v),Gq cs r v)
def sy (K:KL)(cs:List Cl)(r:D)(M:Nat):List Bs:=((bM K).filter (sv cs r)).map (U1 cs r)++((pz K (cW r)).filter (xh r M)).map λx=>(none,(x.2:Int))
def DD (K:KL)(cs:List Cl)(r:D)(M:Nat):List Bs:=eJ (λb=>cM (zk b)) (sy K cs r M)
theorem DE (hn:((bM (ak ab aa)).map (az 0)).Nodup)(cs:List Cl)(r:D)(M:Nat):(sy (ak ab aa) cs r M).Nodup:=by
 unfold sy;rw[nodup_append];refine⟨?_,?_,?_⟩
 ·exact pairwise_map.mpr ((List.Pairwise.sublist filter_sublist (pairwise_map.mp hn)).imp λh e=>h (vK (Prod.mk.inj e).1))
 ·refine pairwise_map.mpr ((List.Pairwise.sublist (filter_sublist.trans (filter_sublist.trans filter_sublist)) (pairwise_map.mp (dz ab aa))).imp λh e=>h ?_);have:=(Prod.mk.inj e).2;lia
 ·intro a ha b hb e;obtain⟨v,_,rfl⟩:=vO ha;obtain⟨x,_,rfl⟩:=vO hb;cases (Prod.mk.inj e).1
theorem uH {α:Type}{g:α->D}{h:α->List At}:∀(l:List α),(∀x∈l,Mt (g x)=some (h x))->jw (l.map g)=some (l.map h)
 |[],_=>rfl
 |x::l,k=>by
  rw[uY,jw,k x mX,vJ,uH l λy hy=>k y (mZ _ hy)];rfl
theorem Ci (hl:ab.length<=30)(aa:Int)(cs:List Cl)(r:D)(M:Nat):(sy (ak ab aa) cs r M).length<=60:=by
 have h1:((bM (ak ab aa)).filter (sv cs r)).length<=30:=by
  refine vR (vM _ _) ?_;unfold bM;rw[vI];exact vR (vM _ _) (vR (cq ab aa) hl)
 have h2:((pz (ak ab aa) (cW r)).filter (xh r M)).length<=30:=vR (vM _ _) (vR (vM _ _) (vR (vM _ _) (vR (cq ab aa) hl)));unfold sy;rw[uZ,vI,vI];lia
theorem Gy {f:FE}{ρ:DL.Env}{b:Bool}(l:List Bs)(hl:l.length<=60)(hn:l.Nodup)(e:f ρ=some (.lst (l.map zC),b)):Ar f (qz [] (fA be (af (f2 bD (ai 0) (f1 xX (fI 1))) (fV 0 aj)))) ρ=lT ((eJ (λb=>cM (zk b)) l).map zC):=by
 have hm:ju (qz [] (fA be (af (f2 bD (ai 0) (f1 xX (fI 1))) (fV 0 aj))) ρ) (l.map zC)=some (l.map λb=>.tup [.int b.2,zC b]):=iz l λb _=>by
  show(fA be _ _).map _=_;rw[aN [.int b.2,zC b] (cw (bC (zC b) (.int (-1)) rfl rfl (Jw b)) (cw rfl rfl)) (cI _ (by simp))];rfl
 have hk:jw (l.map λb=>D.tup [.int b.2,zC b])=some (l.map zk):=uH l λb _=>by rcases b with⟨_|o,n⟩<;>rfl
 have M:(l.map zk).length<64/\eK (l.map zk)=true/\True/\((l.map zk).map cM).Nodup:=by
  refine⟨by rw[vI];lia,Ch l,trivial,?_⟩;rw[uP];exact pairwise_map.mpr (List.Pairwise.imp (λh e=>h (Gx e)) hn)
 unfold Ar wF;rw[e];simp only[vJ];rw[hm];simp only[vJ];rw[hk];simp only[vJ];rw[if_pos M];unfold jv;have O:((eJ (λb=>cM (zk b)) l).map λb=>(zk b,zC b))=eJ (λp:List At×D=>cM p.1) (l.map λb=>(zk b,zC b)):=by
  refine k6 _ (λx hx y hy e=>?_) ((aX _ _).map _) ?_
  ·obtain⟨a,_,rfl⟩:=vO hx;obtain⟨b,_,rfl⟩:=vO hy;rw[Gx e]
  ·exact pairwise_map.mpr (gf _ _)
 rw[zip_map',<-O,uP];rfl
section
variable {ab:LD}(g:∀r∈ab,cf r) (hl:ab.length<=30) (aa:Int) (hn:((bM (ak ab aa)).map (az 0)).Nodup)
include g hl hn
theorem zl (cs:List Cl)(h:cs.length<=60){M:Nat}{r:D}(hr:ab[M]? = some r)(U:kindOf r∈fm)(hk:aU r<=aa):dY [.tup ab,.int aa,.lst (cs.map aY),.int M]=lT ((DD (ak ab aa) cs r M).map zC):=by
 have e:=g r (vL hr);have f:∀(ρ:DL.Env)(j:Nat),ρ[0]? = some (sT ab)->ρ[j]? = some (sI M)->fA aO (af (f2 bD (ai 0) (ai j)) aj) ρ=sS (kindOf r):=λρ j h0 h2=>aN [r] (cw (bC (.tup ab) (.int M) (by simp[h0]) (by simp[h2]) (by simp[cD hr])) rfl) (je e.c);have i:cH [.tup ab,.int aa,.int M]=sO true:=by
  obtain⟨a,k,aH,rfl,d⟩:=id e;rw[kL hr aa,xq (show a<=aa from hk)]
 have l:fE [.tup ab,.int aa,.int M]=sO (decide (kindOf r∈[("paper" : Str),"like","copy"])):=av rfl (ax (dQ (p:=true) (aN [.tup ab,.int aa,.int M] rfl i) λ_=>bC (.str (kindOf r)) (.tup ([("paper" : Str),"like","copy"].map .str)) (f _ 2 rfl rfl) rfl (iu _ _)));have hb:dX [.tup ab,.int aa,.int M]=sO true:=by
  refine(av rfl (ax (qT (aN [.tup ab,.int aa,.int M] rfl (mi hr e)) λ_=>aN [.tup ab,.int aa,.int M] rfl l))).trans ?_;rw[xq hk,Bool.true_and];have:∀k∈fm,(decide (k = "leave") || decide (k∈[("paper" : Str),"like","copy"]))=true:=by decide +kernel
  unfold mU;rw[this _ U]
 have m:decide (kindOf r = "copy")=false:=by
  have:∀k∈fm,decide (k = "copy")=false:=by decide +kernel
  exact this _ U
 have T:=Ci hl aa cs r M;have n:bE ((sy (ak ab aa) cs r M).map zC)=true:=bZ λd hd=>by obtain⟨b,_,rfl⟩:=vO hd;exact Gv b
 refine av rfl (aE (bX (p:=true) (cY (aN [.tup ab,.int aa,.int M] rfl hb))) (aE (bT (a:=kindOf r) (bb:=false) (f _ 3 rfl rfl) m) (de (ds:=(sy (ak ab aa) cs r M).map zC) ?_ n (ax (Gy (b:=false) _ T (DE hn cs r M) rfl)))));have o:=DA g (by lia) aa hn cs h hr U;have hv:=DC g (by lia) aa hr U;refine fB (x:=.lst (((bM (ak ab aa)).filter (sv cs r)).map (M4 cs r))) (y:=.lst (((pz (ak ab aa) (cW r)).filter (xh r M)).map λx=>.tup [.str "leave",.int x.2])) (b1:=true) (b2:=true) (aN [.tup ab,.int aa,.lst (cs.map aY),.int M] rfl o) (aN [.tup ab,.int aa,.int M] rfl hv) ?_;have O:=T;unfold sy at O |-;rw[uZ,vI,vI]at O;refine(if_pos (dR (by rw[vI,vI];lia))).trans ?_;rw[uW,uP,uP];rfl
end
def M6 (K:KL)(c r:D):Bool:=decide (cW c=cW r) || (!decide (kindOf r = "copy") && (bM K).any λv=>decide (iI v &&& iI r=iI r) && iC (bp K) (az 0 v) (az 3 v) (cW c) (aG c))
theorem any_filter {α:Type}(l:List α)(p f:α->Bool):((l.filter p).map f).any id=l.any λx=>p x && f x:=by
 induction l with
 |nil=>rfl
 |cons x l M=>
  rw[filter_cons,any_cons,<-M];cases h:p x with
  |true=>rw[if_pos rfl,uY,any_cons];rfl
  |false=>rw[if_neg (by decide)];rfl
theorem M7 {ab:LD}(g:∀r∈ab,cf r)(hl:ab.length<=60)(aa:Int)(q:(bp (ak ab aa)).length<=60)(hn:((bM (ak ab aa)).map (az 0)).Nodup){O T:Nat}{c r:D}(hc:ab[O]? = some c)(hr:ab[T]? = some r)(h:kindOf c = "call")(i:kindOf r∈bu):
  lX [.tup ab,.int aa,.lst ((bp (ak ab aa)).map aY),.int O,.int T]=sO (M6 (ak ab aa) c r):=by
 have s:gG ab:=⟨hl,λr hr=>(g r hr).c⟩;have j:=g c (vL hc);have b:=g r (vL hr);have l:=cD hc;have t:=cD hr;have u:=Cc j (jT (.inr h));have w:=Cc b (jT (.inl i));have U:∀v∈bM (ak ab aa),cf v/\bi v=true:=λv hv=>by
  obtain⟨x,hx,rfl⟩:=vO hv;obtain⟨h1,h2⟩:=vN hx;exact⟨g _ (vL (br h1)),h2⟩
 have C:(bM (ak ab aa)).length<=60:=by
  unfold bM;rw[vI];exact vR (vM _ _) (vR (cq ab aa) hl)
 have y:aV [c]=sI (aG c):=by
  have:=rM j.c;unfold tq at this;rwa [if_neg (by unfold bi;rw[h];decide +kernel)]at this
 have n:∀(v7:OB),bw (f2 eV (ai 6) (fA aq (fV 5 (af (fS "by") aj)))) [sT ab,sI aa,sL ((bp (ak ab aa)).map aY),sI O,sI T,some (r,false),sS (cW c),v7]=some (decide (cW c=cW r)):=λv7=>cY (bC (.str (cW c)) (.str (cW r)) rfl (aN [r,.str "by"] rfl w) (by simp));have p:∀(v7:OB),bw (f2 eV (fA aO (fV 5 aj)) (fS "copy")) [sT ab,sI aa,sL ((bp (ak ab aa)).map aY),sI O,sI T,some (r,false),sS (cW c),v7]=some (decide (kindOf r = "copy")):=λv7=>bT (a:=kindOf r) (bb:=false) (aN [r] rfl (je b.c)) rfl;refine av rfl (gL r (bC (.tup ab) (.int T) rfl rfl (by simp[t])) b.flat (gL (.str (cW c)) (aN [c,.str "by"] (cw (bC (.tup ab) (.int O) rfl rfl (by simp[l])) rfl) u) rfl ?_));unfold M6;cases h1:decide (cW c=cW r) with
 |true=>exact bA ((n none).trans (by rw[h1])) (ax rfl)
 |false=>
  refine aE ((n none).trans (by rw[h1])) ?_;cases h2:decide (kindOf r = "copy") with
  |true=>exact bA ((p none).trans (by rw[h2])) (ax rfl)
  |false=>
   have z:kindOf r∈fm:=by
    have A:=of_decide_eq_false h2;have:∀k∈bu,k ≠ "copy"->k∈fm:=by decide +kernel
    exact this _ i A
   have pm:=xa b z;refine aE ((p none).trans (by rw[h2])) ?_;have M:=fX (fi:=qK (fA gw (fV 0 (fV 1 aj)))) (nT:=1) (cap:=[5]) (tg:=dj 0) (c:=bw (fA io (af (fA aq (fV 0 (af (fS "matters") aj))) (af (fA aq (fV 1 (af (fS "matters") aj))) aj)))) (fe:=ai 0)
    (ρ:=[sT ab,sI aa,sL ((bp (ak ab aa)).map aY),sI O,sI T,some (r,false),sS (cW c),none]) (bM (ak ab aa)) id (λv=>decide (iI v &&& iI r=iI r)) id
    (by show(fA gw _ _).bind _=_;rw[aN [.tup ab,.int aa] rfl (rX s aa),sn hn];simp) (by lia) λv hv=>by
     obtain⟨d,e⟩:=U v hv;exact⟨[some (v,false),some (r,false)],rfl,cY (aN [.int (iI v),.int (iI r)] (aI (aN [v,.str "matters"] rfl (Cb d e)) (aI (aN [r,.str "matters"] rfl pm) rfl)) (uG _ _)),λ_=>⟨false,rfl⟩⟩
   rw[map_id]at M;refine de (ds:=(bM (ak ab aa)).filter λv=>decide (iI v &&& iI r=iI r)) M (bZ λv hv=>(U v (vN hv).1).1.flat) (ax ?_);have B:=kB (fi:=cn (ai 7)) (nT:=1) (cap:=[2,6,0,3]) (tg:=dj 0) (fe:=fA cP (fV 1 (fV 0 (fV 2 (af (fA aV (af (f2 bD (ai 3) (ai 4)) aj)) aj)))))
    (ρ:=[sT ab,sI aa,sL ((bp (ak ab aa)).map aY),sI O,sI T,some (r,false),sS (cW c),lT ((bM (ak ab aa)).filter λv=>decide (iI v &&& iI r=iI r))]) ((bM (ak ab aa)).filter λv=>decide (iI v &&& iI r=iI r)) id (λv=>.bl (iC (bp (ak ab aa)) (az 0 v) (az 3 v) (cW c) (aG c)))
    (by simp) (vR (vM _ _) (by lia)) λv hv=>by
     obtain⟨d,e⟩:=U v (vN hv).1;obtain⟨a,o,rl,m,f,rfl,_,_⟩:=sk d e;exact⟨[some (row a ("root" : Str) [.str o,.int m,.int f,.str rl],false),sL ((bp (ak ab aa)).map aY),sS (cW c),sT ab,sI O],rfl,false,aN [.lst ((bp (ak ab aa)).map aY),row a ("root" : Str) [.str o,.int m,.int f,.str rl],.str (cW c),.int (aG c)] (cw rfl (cw rfl (cw rfl (aI (aN [c] (cw (bC (.tup ab) (.int O) rfl rfl (by simp[l])) rfl) y) rfl)))) (wT _ q _ _)⟩
   refine(aN [_] (aI B rfl) ?_);show(qi _).map _=_;rw[qU,map_some,any_filter];rfl
theorem A6 (g:cf r)(h:kindOf r = "call"):∃a d b,∃n:Nat,r=row a ("call" : Str) [.int d,.str b,.int n]:=by
 obtain⟨a,k,aH,rfl,d⟩:=g;have hk:k = "call":=h;clear h;cases d with
 |copy k M d b n=>subst hk;exact⟨a,d,b,n,rfl⟩
 |root=>exact cV hk
 |named=>exact cV hk
 |chosen=>exact cV hk
 |heir=>exact cV hk
 |three k M=>rcases M with rfl|rfl|rfl<;>exact cV hk
 |leave=>exact cV hk
 |paper k M=>rcases M with rfl|rfl<;>exact cV hk
def Jy (ab:LD)(aa:Int)(M:Nat)(r:D)(day:Int)(c:D):Bool:=decide (kindOf c = "call") && (decide (fY 2 c=M) && (decide (aG c<=day) && (gN ab aa c && M6 (ak ab aa) c r)))
theorem G0 (e:f ρ=some (.str a,bb)):bw (f2 zT f (fS b)) ρ=some (!decide (a=b)):=cY (fB (x:=.str a) (y:=.str b) (b1:=bb) (b2:=false) e rfl (by simp))
section
variable {ab:LD}(g:∀r∈ab,cf r) (hl:ab.length<=60) (aa:Int) (kR:(bp (ak ab aa)).length<=60) (hn:((bM (ak ab aa)).map (az 0)).Nodup)
include g hl kR hn
theorem zm {O M:Nat}{c r:D}(hc:ab[O]? = some c)(hr:ab[M]? = some r)(j:kindOf r∈bu)(day:Int):jN [.tup ab,.int aa,.lst ((bp (ak ab aa)).map aY),.int O,.int M,.int day]=sO (Jy ab aa M r day c):=by
 have U:=g c (vL hc);have k:=cD hc;have f:bw (f2 zT (fA aO (fV 6 aj)) (fS "call")) [sT ab,sI aa,sL ((bp (ak ab aa)).map aY),sI O,sI M,sI day,some (c,false)]=some (!decide (kindOf c = "call")):=G0 (a:=kindOf c) (bb:=false) (aN [c] rfl (je U.c));refine av rfl (gL c (bC (.tup ab) (.int O) rfl rfl (by simp[k])) U.flat ?_);unfold Jy;by_cases hk:kindOf c = "call"
 ·obtain⟨a,d,b,n,e⟩:=A6 U hk;have l:fY 2 c=(n:Int):=by rw[e];rfl
  have e2:aG c=d:=by rw[e];rfl
  have po:aq [c,.str "of"]=sI n:=by rw[e];exact bz (i:=2) dq rfl
  have m:aV [c]=sI d:=by
   have:=rM U.c;unfold tq at this;rwa [if_neg (by unfold bi;rw[hk];decide +kernel),e2]at this
  have o:bw (f2 zT (fA aq (fV 6 (af (fS "of") aj))) (ai 4)) [sT ab,sI aa,sL ((bp (ak ab aa)).map aY),sI O,sI M,sI day,some (c,false)]=some (!decide ((n:Int)=M)):=cY (bC (.int n) (.int M) (aN [c,.str "of"] rfl po) rfl (by simp));have s:bw (f2 CP (fA aV (fV 6 aj)) (ai 5)) [sT ab,sI aa,sL ((bp (ak ab aa)).map aY),sI O,sI M,sI day,some (c,false)]=some (decide (day<d)):=cY (bC (.int d) (.int day) (aN [c] rfl m) rfl rfl);have T:=cC f λ_=>cC o λ_=>s;rw[l,e2,xq hk,Bool.true_and];rw[xq hk]at T;by_cases h1:(n:Int)=M
  ·by_cases h2:d<=day
   ·rw[xq h1,xq h2,Bool.true_and,Bool.true_and];rw[xq h1,DP (by lia)]at T;exact aE T (ax (dQ (aN [.tup ab,.int aa,.int O] rfl (mL ab (λr hr=>(g r hr).c.rp) (by lia) aa hc)) λ_=>aN [.tup ab,.int aa,.lst ((bp (ak ab aa)).map aY),.int O,.int M] rfl (M7 g hl aa kR hn hc hr hk j)))
   ·rw[DP h2,Bool.false_and,Bool.and_false];rw[xq h1,xq (show day<d by lia)]at T;exact bA T (ax rfl)
  ·rw[DP h1,Bool.false_and];rw[DP h1]at T;exact bA T (ax rfl)
 ·rw[DP hk,Bool.false_and];refine bA (cC (p:=true) (q:=false) (f.trans (by rw[DP hk];rfl)) λh=>by cases h) (ax rfl)
def jg (ab:LD)(aa:Int)(M:Nat)(r:D)(day:Int):LN:=if aU r<=aa/\kindOf r∈bu then ((ak ab aa).filter λx=>Jy ab aa M r day x.1).map (·.2)else []
theorem pb {M:Nat}{r:D}(hr:ab[M]? = some r)(day:Int):jO [.tup ab,.int aa,.lst ((bp (ak ab aa)).map aY),.int M,.int day]=lT ((jg ab aa M r day).map λn:Nat=>.int n):=by
 have b:=g r (vL hr);have h:=cD hr;have T:cH [.tup ab,.int aa,.int M]=sO (decide (aU r<=aa)):=by
  obtain⟨a,k,aH,e,d⟩:=b;rw[e]at hr;rw[show aU r=a by rw[e];rfl];exact kL hr aa
 have f:∀ρ:DL.Env,ρ[0]? = some (sT ab)->ρ[2]? = some (sI M)->fA aO (af (f2 bD (ai 0) (ai 2)) aj) ρ=sS (kindOf r):=λρ h0 h2=>aN [r] (cw (bC (.tup ab) (.int M) (by simp[h0]) (by simp[h2]) (by simp[h])) rfl) (je b.c);have U:gk [.tup ab,.int aa,.int M]=sO (decide (aU r<=aa) && decide (kindOf r = "leave")):=av rfl (ax (dQ (aN [.tup ab,.int aa,.int M] rfl T) λ_=>bC (.str (kindOf r)) (.str "leave") (f _ rfl rfl) rfl (by simp)));have i:fE [.tup ab,.int aa,.int M]=sO (decide (aU r<=aa) && decide (kindOf r∈[("paper" : Str),"like","copy"])):=av rfl (ax (dQ (aN [.tup ab,.int aa,.int M] rfl T) λ_=>bC (.str (kindOf r)) (.tup ([("paper" : Str),"like","copy"].map .str)) (f _ rfl rfl) rfl (iu _ _)));have hb:dX [.tup ab,.int aa,.int M]=sO (decide (aU r<=aa/\kindOf r∈bu)):=by
  refine(av rfl (ax (qT (aN [.tup ab,.int aa,.int M] rfl U) λ_=>aN [.tup ab,.int aa,.int M] rfl i))).trans ?_;congr 3;simp only[bu,mem_cons,not_mem_nil,or_false];by_cases h1:aU r<=aa
  ·simp[h1]
  ·simp[h1]
 unfold jg;by_cases hx:aU r<=aa/\kindOf r∈bu
 ·rw[if_pos hx];refine av rfl (aE (bX (p:=true) (cY (aN [.tup ab,.int aa,.int M] rfl (by rw[hb,xq hx])))) (ax ?_));have O:=fX (fi:=cn (fA cK (fV 0 (fV 1 aj)))) (nT:=1) (cap:=[0,1,2,3,4]) (tg:=dj 0) (c:=bw (fA jN (fV 1 (fV 2 (fV 3 (fV 0 (fV 4 (fV 5 aj)))))))) (fe:=ai 0)
   (ρ:=[sT ab,sI aa,sL ((bp (ak ab aa)).map aY),sI M,sI day]) (ak ab aa) (λx=>.int x.2) (λx=>Jy ab aa M r day x.1) (λx=>.int x.2)
   (by show(fA cK _ _).bind _=_;rw[aN [.tup ab,.int aa] rfl (kK ab (λr hr=>(g r hr).c.rp) (by lia) aa)];rfl) (vR (cq ab aa) (by lia)) λx j=>by
    exact⟨_,rfl,cY (aN [.tup ab,.int aa,.lst ((bp (ak ab aa)).map aY),.int x.2,.int M,.int day] rfl (zm g hl aa kR hn (br j) hr hx.2 day)),λ_=>⟨false,rfl⟩⟩
  rw[uP];exact O
 ·rw[if_neg hx];exact av rfl (bA (bX (p:=false) (cY (aN [.tup ab,.int aa,.int M] rfl (by rw[hb,DP hx])))) (ax (aN [] rfl (jf _ (by simp)))))
omit kR in
theorem G1 (T:(c8 (ak ab aa)).length<=60){M:Nat}{r:D}(hr:ab[M]? = some r)(day:Int):wN [.tup ab,.int aa,.int M,.int day]=lT ((jg ab aa M r day).map λn:Nat=>.int n):=by
 obtain⟨U,O⟩:=nW (ab:=ab) ⟨hl,λr hr=>(g r hr).c⟩ aa T;exact av rfl (ax (aN [.tup ab,.int aa,.lst ((bp (ak ab aa)).map aY),.int M,.int day] (cw rfl (cw rfl (aI (aN [.tup ab,.int aa] rfl U) (cw rfl (cw rfl rfl))))) (pb g hl aa O hn hr day)))
end
noncomputable def ls:LS:=[("paper" : Str),"like","copy"]
noncomputable def ml (w:Str):Bs->D
 | (some o,n)=>.tup [.str "office",.str o,.int n]
 | (none,n)=>.tup [.str w,.int n]
def Ea (r:D):Str:=if kindOf r = "copy" then ("copy" : Str)else ("leave" : Str)
theorem DF (b:Bs):ml ("leave" : Str) b=zC b:=by rcases b with⟨_|o,n⟩<;>rfl
theorem DG {ab:LD}{n:Nat}(h:ab.length<=n)(aa:Int):cH [.tup ab,.int aa,.int n]=sO false:=by
 refine av rfl (ax (dQ (p:=false) (q:=false) (b1:=false) ?_ λz=>by cases z));have h1:¬(n:Int)<ab.length:=by lia
 exact(yG (p:=true) (q:=false) (x:=.int 0) (y:=.int n) (z:=.int ab.length) (b1:=false) (b2:=false) (b3:=false) (b4:=false) rfl rfl (by simp) (by simp) λ_=>by simp[h1])
theorem G2 {ab:LD}{i:Nat}{r:D}(hr:ab[i]? = some r)(g:cf r)(aa:Int):cH [.tup ab,.int aa,.int i]=sO (decide (aU r<=aa)):=by
 obtain⟨a,k,aH,rfl,d⟩:=g;exact kL hr aa
theorem Cj {ab:LD}{i:Nat}{r:D}(hr:ab[i]? = some r)(g:cf r){ρ:DL.Env}{j:Nat}(h0:ρ[0]? = some (sT ab))(hj:ρ[j]? = some (sI i)):fA aO (af (f2 bD (ai 0) (ai j)) aj) ρ=sS (kindOf r) :=
 aN [r] (cw (bC (.tup ab) (.int i) (by simp[h0]) (by simp[hj]) (by simp[cD hr])) rfl) (je g.c)
theorem zn {ab:LD}{i:Nat}{r:D}(hr:ab[i]? = some r)(g:cf r)(aa:Int):fE [.tup ab,.int aa,.int i]=sO (decide (aU r<=aa) && decide (kindOf r∈ls)) :=
 av rfl (ax (dQ (aN [.tup ab,.int aa,.int i] rfl (G2 hr g aa)) λ_=>bC (.str (kindOf r)) (.tup (ls.map .str)) (Cj hr g rfl rfl) rfl (iu _ _)))
theorem zo {ab:LD}{i:Nat}{r:D}(hr:ab[i]? = some r)(g:cf r)(aa:Int):dX [.tup ab,.int aa,.int i]=sO (decide (aU r<=aa) && decide (kindOf r∈bu)):=by
 refine(av rfl (ax (qT (aN [.tup ab,.int aa,.int i] rfl (mi hr g)) λ_=>aN [.tup ab,.int aa,.int i] rfl (zn hr g aa)))).trans ?_;congr 3;unfold mU;simp only[bu,ls,mem_cons,not_mem_nil,or_false];by_cases h1:aU r<=aa
 ·simp[h1]
 ·simp[h1]
def sC (ab:LD)(aa:Int)(r:D)(M n:Nat):Bool:=match ab[n]? with
 |none=>false
 |some q=>(decide (aU q<=aa) && decide (kindOf q∈ls)) && bQ (q,n) (r,M)
theorem jU (g:cf r)(h:kindOf r = "copy"):∃a d b,∃n:Nat,r=row a ("copy" : Str) [.int d,.str b,.int n]:=by
 obtain⟨a,k,aH,rfl,d⟩:=g;have hk:k = "copy":=h;clear h;cases d with
 |copy k M d b n=>subst hk;exact⟨a,d,b,n,rfl⟩
 |root=>exact cV hk
 |named=>exact cV hk
 |chosen=>exact cV hk
 |heir=>exact cV hk
 |three k M=>rcases M with rfl|rfl|rfl<;>exact cV hk
 |leave=>exact cV hk
 |paper k M=>rcases M with rfl|rfl<;>exact cV hk
theorem sD (h:kindOf r∈ls):bi r=false:=by
 have:∀k∈ls,decide (k = "root")=false:=by decide +kernel
 exact this _ h
theorem DH {ab:LD}(g:∀r∈ab,cf r)(aa:Int){M:Nat}{r:D}(hr:ab[M]? = some r)(T:kindOf r = "copy"):∃n:Nat,fY 2 r=n/\jM [.tup ab,.int aa,.int M]=lT ((if sC ab aa r M n=true then [((none,(n:Int)):Bs)]else []).map (ml ("copy" : Str))):=by
 have U:=g r (vL hr);obtain⟨a,d,b,n,er⟩:=jU U T;have e:bi r=false:=sD (by rw[T];decide +kernel);have po:aq [r,.str "of"]=sI n:=by rw[er];exact bz (i:=2) dq rfl
 refine⟨n,by rw[er];rfl,?_⟩;let E:DL.Env:=[sT ab,sI aa,sI M,sI n];refine av rfl (gL (.int n) (aN [r,.str "of"] (cw (bC (.tup ab) (.int M) rfl rfl (by simp[cD hr])) rfl) po) rfl ?_);have O:fF (bw (fA fE (fV 0 (fV 1 (fV 3 aj))))) (bw (fA gm (fV 0 (fV 3 (fV 2 aj))))) E=some (sC ab aa r M n):=by
  unfold sC;cases hq:ab[n]? with
  |none=>
   have hn:ab.length<=n:=List.getElem?_eq_none_iff.mp hq;exact fw (p:=false) (q:=false) (cY (aN [.tup ab,.int aa,.int n] rfl (av rfl (ax (dQ (p:=false) (q:=false) (aN [.tup ab,.int aa,.int n] rfl (DG hn aa)) λz=>by cases z))))) λz=>by cases z
  |some q=>
   have c:=g q (vL hq);exact fw (cY (aN [.tup ab,.int aa,.int n] rfl (zn hq c aa))) λh=>by
    rw[vC]at h;exact cY (aN [.tup ab,.int n,.int M] rfl (zj hq hr c U (sD (DQ h.2)) e))
 cases hv:sC ab aa r M n with
 |true=>
  rw[hv]at O;rw[if_pos rfl];exact bA O (ax (aN [.tup [.str "copy",.int n]] (cw (aN [.str "copy",.int n] rfl (cI _ (by simp))) rfl) (jf _ (by simp))))
 |false=>
  rw[hv]at O;rw[if_neg (by decide)];exact aE O (ax (aN [] rfl (jf _ (by simp))))
def mV (ab:LD)(aa:Int)(cs:List Cl)(x:D×Nat):List Bs:=if kindOf x.1 = "copy" then (if sC ab aa x.1 x.2 (fY 2 x.1).toNat=true then [(none,fY 2 x.1)]else [])else DD (ak ab aa) cs x.1 x.2
section
variable {ab:LD}(g:∀r∈ab,cf r) (hl:ab.length<=30) (aa:Int) (hn:((bM (ak ab aa)).map (az 0)).Nodup)
include g hl hn
theorem Ck (cs:List Cl)(T:cs.length<=60){O:Nat}{r:D}(hr:ab[O]? = some r)(U:kindOf r∈bu)(hk:aU r<=aa):dY [.tup ab,.int aa,.lst (cs.map aY),.int O]=lT ((mV ab aa cs (r,O)).map (ml (Ea r))):=by
 have b:=g r (vL hr);unfold mV Ea;by_cases M:kindOf r = "copy"
 ·rw[if_pos M,if_pos M];obtain⟨n,c,e2⟩:=DH g aa hr M;rw[c,toNat_natCast];refine av rfl (aE (bX (p:=true) (cY (aN [.tup ab,.int aa,.int O] rfl ((zo hr b aa).trans (by rw[xq hk,xq U];rfl))))) (bA (bT (a:=kindOf r) (bb:=false) (Cj hr b rfl rfl) (xq M)) (ax (aN [.tup ab,.int aa,.int O] rfl e2))))
 ·rw[if_neg M,if_neg M];have d:kindOf r∈fm:=by
   have:∀k∈bu,k ≠ "copy"->k∈fm:=by decide +kernel
   exact this _ U M
  rw[show ml ("leave" : Str)=zC from funext DF];exact zl g hl aa hn cs T hr d hk
end
theorem M8 (e:f (ly ρ)=some (d,b))(k:h (ρ.set i (some (d,false)))=r):aF (xO i f) h ρ=r:=eM (ρ':=ρ.set i (some (d,false))) (by simp only[xO,e,map_some]) k
theorem Cm (e:ρ[i]? = some (some (.dk ks vs,b))):jn i ρ=some (.rt (.dk ks vs) false):=by simp[jn,e]
noncomputable def kN (x:D×Nat):dO:=.inl (x.2:Int)
def oe (ab:LD)(aa day:Int)(x:D×Nat):Bool:=(gN ab aa x.1 && decide (aG x.1<=day)) && (jg ab aa x.2 x.1 day).isEmpty
theorem Jz {α:Type}(l:List α)(f:α->D):decide ((((l.map f).length:Nat):Int)=0)=l.isEmpty:=by
 cases l with
 |nil=>rfl
 |cons a l=>rw[uY,vE];exact DP (by lia)
noncomputable def l7 (ab:LD)(aa day:Int)(l:KL):KL:=l.filter λx=>decide (kindOf x.1∈bu) && oe ab aa day x
section
variable {ab:LD}(g:∀r∈ab,cf r) (hl:ab.length<=30) (aa:Int) (hn:((bM (ak ab aa)).map (az 0)).Nodup)
include g hl hn
theorem M9 (O:(bp (ak ab aa)).length<=60){M:Nat}{r:D}(hr:ab[M]? = some r)(a:kindOf r∈bu)(day:Int):mI [.tup ab,.int aa,.lst ((bp (ak ab aa)).map aY),.int M,.int day]=sO (oe ab aa day (r,M)):=by
 have b:=g r (vL hr);have d:bi r=false:=by
  have:∀k∈bu,decide (k = "root")=false:=by decide +kernel
  exact this _ a
 let E:DL.Env:=[sT ab,sI aa,sL ((bp (ak ab aa)).map aY),sI M,sI day];have f:bw (fA dU (fV 0 (fV 1 (fV 3 aj)))) E=some (gN ab aa r):=cY (aN [.tup ab,.int aa,.int M] rfl (mL ab (λr hr=>(g r hr).c.rp) (by lia) aa hr));have h:bw (f2 CP (fA aV (af (f2 bD (ai 0) (ai 3)) aj)) (ai 4)) E=some (decide (day<aG r)):=cY (bC (.int (aG r)) (.int day) (aN [r] (cw (bC (.tup ab) (.int M) rfl rfl (by simp[cD hr])) rfl) (su b d)) rfl rfl);have T:=cC (bX f) λ_=>h;have e:(!gN ab aa r || decide (day<aG r)) = !(gN ab aa r && decide (aG r<=day)):=by
  rw[Bool.not_and];congr 1;rw[<-decide_not];congr 1;rw[Int.not_le]
 rw[e]at T;unfold oe;cases U:(gN ab aa r && decide (aG r<=day)) with
 |false=>
  rw[U]at T;exact av rfl (bA T (ax rfl))
 |true=>
  rw[U]at T;refine av rfl (aE T (ax ?_));rw[Bool.true_and,<-Jz (jg ab aa M r day) λn:Nat=>.int n];exact bC (.int (((jg ab aa M r day).map λn:Nat=>D.int n).length:Nat)) (.int 0) (aN [.lst ((jg ab aa M r day).map λn:Nat=>.int n)] (aI (aN [.tup ab,.int aa,.lst ((bp (ak ab aa)).map aY),.int M,.int day] rfl (pb g (by lia) aa O hn hr day)) rfl) rfl) rfl (by simp)
theorem zp (k:(c8 (ak ab aa)).length<=60)(day:Int):lm [.tup ab,.int aa,.int day]=sF (.dk ((l7 ab aa day (c8 (ak ab aa))).map kN) ((l7 ab aa day (c8 (ak ab aa))).map λx=>.lst ((mV ab aa (bp (ak ab aa)) x).map (ml (Ea x.1))))):=by
 have m:gG ab:=⟨by lia,λr hr=>(g r hr).c⟩;obtain⟨n,T⟩:=nW (ab:=ab) m aa k;have o:dS [.tup ab,.int aa]=lT ((c8 (ak ab aa)).map λx=>.int x.2):=oU m aa;generalize U:bp (ak ab aa)=cs at n T |-;have M:∀x∈c8 (ak ab aa),x∈ak ab aa:=λx hx=>(vN ((aX _ _).mem_iff.mp hx)).1;have p:((c8 (ak ab aa)).map (·.2)).Nodup:=lr (dz ab aa);generalize c8 (ak ab aa)=O at k o M p |-;let i:D×Nat->D:=λx=>.lst ((mV ab aa cs x).map (ml (Ea x.1)));let E:KL->OB->DL.Env:=λL a=>[sT ab,sI aa,sI day,sL (cs.map aY),some (.dk (L.map kN) (L.map i),true),a];obtain⟨ρ',e,a,rfl⟩:=jy (tg:=dj 5) (g:=yN) (λj ρ=>∃a,ρ=E (l7 ab aa day (O.take j)) a) (O.map λx=>.int x.2) (E [] none) ⟨none,rfl⟩ (by
  rintro j d ρ hd ⟨a,rfl⟩;rw[vA]at hd;obtain⟨x,hx,rfl⟩:=oY hd;have q:=M x (vL hx);have hr:=br q;have s:aU x.1<=aa:=DQ (vN q).2;have w:=g x.1 (vL hr);have t:O.take (j+1)=O.take j++[x]:=by rw[take_add_one,hx];rfl
  have u:l7 ab aa day (O.take (j+1))=l7 ab aa day (O.take j)++if(decide (kindOf x.1∈bu) && oe ab aa day x)=true then [x]else []:=by
   unfold l7;rw[t,filter_append,filter_cons];split<;>rfl
  have v:x.2∉(l7 ab aa day (O.take j)).map (·.2):=by
   have h2:((O.take (j+1)).map (·.2)).Nodup:=List.Nodup.sublist (List.Sublist.map _ (take_sublist _ _)) p;rw[t,uW,nodup_append]at h2;intro hm;obtain⟨y,hy,l⟩:=vO hm;exact h2.2.2 _ (uS ⟨y,(vN hy).1,rfl⟩) _ (by simp) l
  have z:(l7 ab aa day (O.take j)).length<=60:=vR (vM _ _) (vR (List.length_take_le' _ _) k);generalize l7 ab aa day (O.take j)=L at u v z;let F:DL.Env:=E L (sI x.2);have A:bw (fA dX (fV 0 (fV 1 (fV 5 aj)))) F=some (decide (kindOf x.1∈bu)):=cY (aN [.tup ab,.int aa,.int x.2] rfl ((zo hr w aa).trans (by rw[xq s,Bool.true_and])));have B:=fw A λh=>cY (f:=fA mI (fV 0 (fV 1 (fV 3 (fV 5 (fV 2 aj)))))) (aN [.tup ab,.int aa,.lst (cs.map aY),.int x.2,.int day] rfl (by rw[<-U];exact M9 g hl aa hn (by rw[U];exact T) hr (DQ h) day));refine⟨F,E (L++if(decide (kindOf x.1∈bu) && oe ab aa day x)=true then [x]else []) (sI x.2),rfl,.inl (Pc B (λh=>?_) λh=>?_),sI x.2,by rw[u]⟩
  ·rw[if_pos h];have C:kindOf x.1∈bu:=by rw[vC]at h;exact DQ h.1
   have G:qM 4 (ai 5) (fA dY (fV 0 (fV 1 (fV 3 (fV 5 aj))))) F=some (.nx (F.set 4 (some (.dk (dL (L.map kN) (kN x)) (dM (L.map kN) (L.map i) (kN x) (i x)),true)))):=by
    have H:fA dY (fV 0 (fV 1 (fV 3 (fV 5 aj)))) (ly F)=some (i x,true):=aN [.tup ab,.int aa,.lst (cs.map aY),.int x.2] rfl (Ck g hl aa hn cs T hr C s);show((fA dY _ (ly F)).bind _)=_;rw[H];simp only[vJ];exact if_pos (c:=(L.map kN).length<sizeLine) (bY (by rw[vI];lia))
   rw[G];have hk:kN x∉L.map kN:=λhm=>by
    obtain⟨y,hy,l⟩:=vO hm;exact v (uS ⟨y,hy,by have:=Sum.inl.inj (show(Sum.inl (y.2:Int):dO)=Sum.inl (x.2:Int)from l);lia⟩)
   unfold dL dM;rw[if_neg hk,if_neg hk];simp[F,E]
  ·rw[h,if_neg (by decide),uQ];rfl)
 rw[vI,take_length]at e;exact av rfl (M8 (aN [.tup ab,.int aa] rfl n) (eM (ρ':=E [] none) rfl (eM (mC (ds:=O.map λx=>.int x.2) (by show(fA dS _ _).bind _=_;rw[aN [.tup ab,.int aa] rfl o];rfl) e) (Cm (b:=true) rfl))))
end
noncomputable def nK (n:Nat):dO:=.inl (n:Int)
noncomputable def Hh:Nat->D:=λ_=>.bl true
noncomputable def fZ (S:LN)(b:Bs):Bool:=b.1.isSome || S.any λn=>decide ((n:Int)=b.2)
noncomputable def cX (S:LN)(p:Nat×List Bs):LN:=if p.2.any (fZ S)=true then S++[p.1]else S
noncomputable def iF (l:List (Nat×List Bs)):LN:=l.foldl cX []
theorem zq (n:Int):∀S:LN,(cu (S.map nK) (S.map Hh) (.inl n)).isSome=S.any λm=>decide ((m:Int)=n)
 |[]=>rfl
 |m::S=>by
  rw[uY,uY,cu,any_cons];by_cases h:(m:Int)=n
  ·rw[if_pos (show nK m=.inl n by unfold nK;rw[h]),xq h];rfl
  ·rw[if_neg (show ¬nK m=.inl n from λz=>h (Sum.inl.inj z)),DP h,zq n S];rfl
theorem G3 (hw:decide (w=("office" : Str))=false)(S:LN)(b:Bs):mJ [ml w b,.dk (S.map nK) (S.map Hh)]=sO (fZ S b):=by
 unfold fZ;rcases b with⟨_|o,n⟩
 ·refine av rfl (ax (qT (p:=false) (b1:=false) (bC (.str w) (.str "office") rfl rfl (by simp[of_decide_eq_false hw])) λ_=>bC (.int n) (.dk (S.map nK) (S.map Hh)) rfl rfl ?_));show some (D.bl (cu (S.map nK) (S.map Hh) (.inl n)).isSome,false)=_;rw[zq]
 ·exact av rfl (ax (qT (p:=true) (q:=S.any λm=>decide ((m:Int)=n)) (b1:=false) (bC (.str "office") (.str "office") rfl rfl (by simp)) λh=>by cases h))
theorem any_map {α:Type}(l:List α)(f:α->Bool):EK [.lst (l.map λx=>.bl (f x))]=sO (l.any f):=by
 show(qi _).map _=_;rw[qU,map_some,List.any_map];rfl
theorem zr (h:m∈cX S p):m∈S\/m=p.1:=by
 unfold cX at h;split at h
 ·simpa using h
 ·exact .inl h
theorem lu:∀(l:List (Nat×List Bs))(S:LN)(m:Nat),m∈l.foldl cX S->m∈S\/m∈l.map (·.1)
 |[],_,_,h=>.inl h
 |p::l,S,m,h=>by
  rcases lu l _ m h with h|h
  ·rcases zr h with h|rfl
   ·exact .inl h
   ·exact .inr (by simp)
  ·exact .inr (mZ _ h)
abbrev Rs:=Nat×Str×List Bs
noncomputable def uI (p:Rs):D:=.lst (p.2.2.map (ml p.2.1))
noncomputable def Cn (p:Rs):Nat×List Bs:=(p.1,p.2.2)
theorem G4 (l:List Rs)(hl:l.length<=60)(hw:∀p∈l,decide (p.2.1 = "office")=false)(hb:∀p∈l,p.2.2.length<=100)(hn:(l.map (·.1)).Nodup):wM [.dk (l.map λp=>nK p.1) (l.map uI)]=sF (.dk ((iF (l.map Cn)).map nK) ((iF (l.map Cn)).map Hh)):=by
 let E:LN->OB->OB->DL.Env:=λS M v3=>[sF (.dk (l.map λp=>nK p.1) (l.map uI)),some (.dk (S.map nK) (S.map Hh),true),M,v3];have DR:lS (l.map λp=>nK p.1) (l.map uI)=l.map λp=>.tup [.int (p.1:Int),uI p]:=by
  unfold lS;rw[zip_map',uP];rfl
 obtain⟨ρ',e,M,v3,rfl⟩:=jy (tg:=Kp [2,3]) (g:=yO) (λj ρ=>∃M v3,ρ=E (iF ((l.take j).map Cn)) M v3) (l.map λp=>.tup [.int (p.1:Int),uI p]) (E [] none none) ⟨none,none,rfl⟩ (by
  rintro j d ρ hd ⟨M,v3,rfl⟩;rw[vA]at hd;obtain⟨p,hp,rfl⟩:=oY hd;have O:=vL hp;have f:l.take (j+1)=l.take j++[p]:=by rw[take_add_one,hp];rfl
  have es:iF ((l.take (j+1)).map Cn)=cX (iF ((l.take j).map Cn)) (Cn p):=by
   rw[f,uW];unfold iF;rw[foldl_append];rfl
  have T:p.1∉iF ((l.take j).map Cn):=λhm=>by
   have h2:((l.take (j+1)).map (·.1)).Nodup:=List.Nodup.sublist (List.Sublist.map _ (take_sublist _ _)) hn;rw[f,uW,nodup_append]at h2;rcases lu _ _ _ hm with h|h
   ·cases h
   ·rw[uP]at h;exact h2.2.2 _ h _ (by simp) rfl
  have i:(iF ((l.take j).map Cn)).length<=60:=by
   have:∀(q:List (Nat×List Bs))(S:LN),(q.foldl cX S).length<=S.length+q.length:=λq=>by
    induction q with
    |nil=>intro S;exact vT _
    |cons a q k=>
     intro S;refine vR (k _) ?_;unfold cX;split
     ·rw[uZ,vE,length_nil,vE];lia
     ·rw[vE];lia
   have h3:=this ((l.take j).map Cn) [];rw[vI,length_take,length_nil]at h3;exact vR h3 (by lia)
  generalize iF ((l.take j).map Cn)=S at es T i;let F:DL.Env:=E S (sI (p.1:Int)) (some (uI p,false));have hc:=kB (fi:=cn (ai 3)) (nT:=1) (cap:=[1]) (tg:=dj 0) (fe:=fA mJ (fV 0 (fV 1 aj))) (ρ:=F) p.2.2 (ml p.2.1) (λb=>.bl (fZ S b)) rfl (by have:=hb p O;lia) λb _=>⟨[some (ml p.2.1 b,false),sF (.dk (S.map nK) (S.map Hh))],rfl,false,aN [ml p.2.1 b,.dk (S.map nK) (S.map Hh)] rfl (G3 (hw p O) S b)⟩;have m:bw (fA EK (af (bN (cn (ai 3)) 1 [1] (dj 0) fM (fA mJ (fV 0 (fV 1 aj)))) aj)) F=some (p.2.2.any (fZ S)):=cY (aN [.lst (p.2.2.map λb=>.bl (fZ S b))] (aI hc rfl) (any_map _ _));refine⟨F,E (cX S (Cn p)) (sI (p.1:Int)) (some (uI p,false)),rfl,.inl (Pc m (λh=>?_) λh=>?_),_,_,by rw[es]⟩
  ·have hk:nK p.1∉S.map nK:=λhm=>by
    obtain⟨y,hy,n⟩:=vO hm;have:=Sum.inl.inj (show(Sum.inl (y:Int):dO)=Sum.inl (p.1:Int)from n);exact T (by rw[show p.1=y by lia];exact hy)
   have U:yB 1 (ai 2) (fC (.bl true)) F=some (.nx (F.set 1 (some (.dk (dL (S.map nK) (nK p.1)) (dM (S.map nK) (S.map Hh) (nK p.1) (.bl true)),true)))):=if_pos (c:=bB (.bl true)=true/\(S.map nK).length<sizeLine) ⟨rfl,bY (by rw[vI];lia)⟩;rw[U];unfold dL dM cX;rw[if_neg hk,if_neg hk,if_pos (show(Cn p).2.any (fZ S)=true from h)];simp[F,E,Cn,Hh]
  ·unfold cX;rw[if_neg (show ¬(Cn p).2.any (fZ S)=true by show ¬p.2.2.any (fZ S)=true;rw[h];decide)];rfl)
 rw[vI,take_length]at e;exact av rfl (eM (ρ':=E [] none none) rfl (eM (mC (ds:=l.map λp=>.tup [.int (p.1:Int),uI p]) (by show some (lS _ _)=_;rw[DR]) e) (Cm (b:=true) rfl)))
theorem uJ:∀S:LN,uq (S.map nK)=some (S.map λ(n:Nat)=>(n:Int))
 |[]=>rfl
 |n::S=>by
  show(uq (S.map nK)).map _=_;rw[uJ S];rfl
theorem zt {α M:Type}(g:α->M)(f:M->LI)(x:α):∀l:List α,nG f (g x) (l.map g)=(nG (λa=>f (g a)) x l).map g
 |[]=>rfl
 |y::r=>by
  rw[uY,nG,nG];split
  ·rw[uY,zt g f x r]
  ·rfl
theorem uK {α M:Type}(g:α->M)(f:M->LI):∀l:List α,eJ f (l.map g)=(eJ (λa=>f (g a)) l).map g
 |[]=>rfl
 |x::l=>by
  show nG f (g x) (eJ f (l.map g))=(nG (λa=>f (g a)) x (eJ (λa=>f (g a)) l)).map g;rw[uK g f l,zt]
theorem G5 (n:Int)(S:LN):DY (.int n) (S.map λ(m:Nat)=>D.int (m:Int))=S.any λm=>decide ((m:Int)=n):=by
 unfold DY;induction S with
 |nil=>rfl
 |cons m S M=>
  rw[uY,any_cons,M,any_cons];by_cases h:(m:Int)=n
  ·simp[h]
  ·simp[h,Ne.symm h]
def eN (ab:LD)(aa:Int)(x:D×Nat):List Bs:=mV ab aa (bp (ak ab aa)) x
def bU (ab:LD)(aa day:Int):LN:=iF ((l7 ab aa day (c8 (ak ab aa))).map λx=>(x.2,eN ab aa x))
def iG (S:LN):LD:=(qx (S.map λ(n:Nat)=>(n:Int))).map .int
theorem A7 (r:D):decide (Ea r = "office")=false:=by
 unfold Ea;split
 ·decide +kernel
 ·decide +kernel
theorem mW (h:kindOf r∈bu):bi r=false:=by
 have:∀k∈bu,decide (k = "root")=false:=by decide +kernel
 exact this _ h
section
variable {ab:LD}(g:∀r∈ab,cf r) (hl:ab.length<=30) (aa:Int) (hn:((bM (ak ab aa)).map (az 0)).Nodup) (ho:(c8 (ak ab aa)).length<=60)
include hl
theorem zu (x:D×Nat):(eN ab aa x).length<=60:=by
 unfold eN mV;split
 ·split
  ·exact(by decide:1<=60)
  ·exact uN _
 ·unfold DD;rw[(aX _ _).length_eq];exact Ci hl aa _ _ _
theorem uL (day:Int):(bU ab aa day).length<=60:=by
 have:∀(q:List (Nat×List Bs))(S:LN),(q.foldl cX S).length<=S.length+q.length:=λq=>by
  induction q with
  |nil=>intro S;exact vT _
  |cons a q M=>
   intro S;refine vR (M _) ?_;unfold cX;split
   ·rw[uZ,vE,length_nil,vE];lia
   ·rw[vE];lia
 have h3:=this ((l7 ab aa day (c8 (ak ab aa))).map λx=>(x.2,eN ab aa x)) [];have h4:(c8 (ak ab aa)).length<=30:=by
  unfold c8;rw[(aX _ _).length_eq];exact vR (vM _ _) (vR (cq ab aa) hl)
 have h5:(l7 ab aa day (c8 (ak ab aa))).length<=30:=vR (vM _ _) h4;rw[vI,length_nil]at h3;exact vR h3 (by lia)
include g hn ho
theorem zv (day:Int):lY [.tup ab,.int aa,.int day]=lT (iG (bU ab aa day)):=by
 have M:=zp g hl aa hn ho day;have h4:(l7 ab aa day (c8 (ak ab aa))).length<=60:=vR (vM _ _) ho;have es:=G4 ((l7 ab aa day (c8 (ak ab aa))).map λx=>(x.2,Ea x.1,eN ab aa x)) (by rw[vI];exact h4)
  (λp hp=>by obtain⟨x,_,rfl⟩:=vO hp;exact A7 _) (λp hp=>by obtain⟨x,_,rfl⟩:=vO hp;exact vR (zu hl aa x) (by decide))
  (by rw[uP];exact List.Nodup.sublist (List.Sublist.map _ filter_sublist) (lr (dz ab aa)))
 rw[uP,uP,uP]at es;refine av rfl (ax (aN [_] (aI (aN [_] (aI (aN [.tup ab,.int aa,.int day] rfl M) rfl) es) rfl) ?_));show(uq ((bU ab aa day).map nK)).bind _=_;rw[uJ,vJ,if_pos (by rw[vI];have:=uL hl aa day;lia)];rfl
end
theorem xi (n:Nat)(S:LN):(S.any λm=>decide ((m:Int)=(n:Int)))=decide (n∈S):=by
 rw[Bool.eq_iff_iff,any_eq_true,decide_eq_true_iff];constructor
 ·rintro⟨m,h,e⟩;have:=DQ e;rw[show n=m by lia];exact h
 ·exact λh=>⟨n,h,xq rfl⟩
theorem sE (n:Int)(S:LN):ph (.int n) (.lst (S.map λ(m:Nat)=>.int (m:Int)))=sO (S.any λm=>decide ((m:Int)=n)):=by
 have M:(S.map λ(n:Nat)=>D.int (n:Int)).all fW=true:=by
  rw[all_eq_true];intro d hd;obtain⟨m,_,rfl⟩:=vO hd;rfl
 simp only[ph,jq,vJ];rw[if_pos ⟨rfl,M⟩,G5]
theorem zw (h:aQ 40 d=true):zT d d=sO false:=by
 unfold zT;rw[if_pos ⟨h,h⟩,rG 40 _ h];rfl
theorem DI (S:LN):bE (iG S)=true:=bZ λd hd=>by obtain⟨n,_,rfl⟩:=vO hd;rfl
theorem G6 (ab:LD)(aa:Int):bM (ak ab aa)=ab.filter λv=>bi v && decide (aU v<=aa):=by
 unfold bM ak;rw[filter_filter];have:∀(l:List (D×Nat))(q:D->Bool),(l.filter λx=>q x.1).map (·.1)=(l.map (·.1)).filter q:=λl q=>by rw[List.filter_map];rfl
 refine(this ab.zipIdx λv=>bi v && decide (aU v<=aa)).trans ?_;rw[List.zipIdx_map_fst]
theorem G7 (ab:LD)(aa:Int):((bM (ak ab aa)).map (az 0)).Sublist (kP ab):=by
 rw[G6];unfold kP;refine List.Sublist.map _ ?_;have:(ab.filter λv=>bi v && decide (aU v<=aa))=(ab.filter bi).filter λv=>decide (aU v<=aa):=by rw[filter_filter];congr 1;funext v;rw[Bool.and_comm]
 rw[this];exact filter_sublist
def uM (S:LN):LN:=eJ (λn:Nat=>[(n:Int)]) S
theorem Co (S:LN):iG S=(uM S).map λ(n:Nat)=>.int (n:Int):=by
 unfold iG qx uM;rw[uK,uP];rfl
theorem vc {m:Nat}{S:LN}:m∈uM S↔m∈S:=(aX _ _).mem_iff
theorem J0 (n:Nat)(S:LN):ph (.int (n:Int)) (.lst (iG S))=sO (decide (n∈S)):=by
 rw[Co,sE,xi];exact congrArg (λb=>some (D.bl b,false)) (decide_eq_decide.mpr vc)
def gt (ab:LD)(aa day:Int):List Rs:=(l7 ab aa day (c8 (ak ab aa))).map λx=>(x.2,Ea x.1,eN ab aa x)
section
variable {ab:LD}(g:∀r∈ab,cf r) (hl:ab.length<=30) (aa:Int) (hn:((bM (ak ab aa)).map (az 0)).Nodup) (ho:(c8 (ak ab aa)).length<=60)
theorem DJ (day:Int):((gt ab aa day).map (·.1)).Nodup:=by
 unfold gt;rw[uP];exact List.Nodup.sublist (List.Sublist.map _ filter_sublist) (lr (dz ab aa))
theorem Py (day:Int):∀p∈gt ab aa day,decide (p.2.1 = "office")=false:=λp hp=>by obtain⟨x,_,rfl⟩:=vO hp;exact A7 _
include hl in
theorem Pz (day:Int):∀p∈gt ab aa day,p.2.2.length<=100:=λp hp=>by obtain⟨x,_,rfl⟩:=vO hp;exact vR (zu hl aa x) (by decide)
include g hl hn ho
end
def jY (ab:LD)(aa:Int)(n:Nat):List Bs:=match ab[n]? with
 |some r=>eN ab aa (r,n)
 |none=>[]
theorem G8 (K:KL){x y:D×Nat}(hy:y∈K)(h:bQ y x=true):(K.filter λz=>bQ z y).length<(K.filter λz=>bQ z x).length:=by
 have M:∀z∈K,bQ z y=true->bQ z x=true:=λz _ hz=>by
  unfold bQ at *;simp only[decide_eq_true_eq]at *;lia
 have e:K.filter (λz=>bQ z y)=(K.filter λz=>bQ z x).filter λz=>bQ z y:=by
  rw[filter_filter];refine List.filter_congr λz hz=>?_;cases k:bQ z y with
  |false=>rfl
  |true=>rw[M z hz k];rfl
 rw[e];refine Nat.lt_of_le_of_ne (vM _ _) λz=>?_;have hm:y∈(K.filter λz=>bQ z x):=mem_filter.mpr ⟨hy,h⟩;have:=List.length_filter_eq_length_iff.mp z y hm;unfold bQ at this;simp at this
section
variable {ab:LD}{aa:Int}
theorem G9 {day:Int}{n:Nat}(h:n∈bU ab aa day):∃r,ab[n]? = some r/\(r,n)∈ak ab aa/\kindOf r∈bu/\(n,Ea r,eN ab aa (r,n))∈gt ab aa day:=by
 rcases lu _ _ _ h with z|z
 ·cases z
 ·obtain⟨p,hp,rfl⟩:=vO z;obtain⟨x,hx,rfl⟩:=vO hp;obtain⟨h1,h2⟩:=vN hx;rw[vC]at h2;have hk:=(vN ((aX _ _).mem_iff.mp h1)).1;exact⟨x.1,br hk,hk,DQ h2.1,uS ⟨x,hx,rfl⟩⟩
theorem GA {S T:LN}(h:∀m∈S,m∈T)(b:Bs)(k:fZ S b=true):fZ T b=true:=by
 unfold fZ at k |-;rw[or_eq_true,any_eq_true]at k |-;exact k.imp id λ⟨n,hn,e⟩=>⟨n,h n hn,e⟩
theorem Cp (h:m∈S):m∈cX S p:=by
 unfold cX;split
 ·exact mem_append_left _ h
 ·exact h
theorem pK:∀(q:List (Nat×List Bs))(S:LN),m∈S->m∈q.foldl cX S
 |[],_,h=>h
 |_::q,_,h=>pK q _ (Cp h)
theorem sG:∀(l:List (Nat×List Bs))(S:LN)(n:Nat),n∈l.foldl cX S->n∈S\/∃p∈l,p.1=n/\p.2.any (fZ (l.foldl cX S))=true
 |[],S,n,h=>.inl h
 |p::l,S,n,h=>by
  rw[foldl_cons]at h |-;rcases sG l (cX S p) n h with z|⟨M,hp,e,k⟩
  ·by_cases hs:n∈S
   ·exact .inl hs
   ·unfold cX at z;split at z
    ·rename_i hb;rcases mem_append.mp z with q|q
     ·exact absurd q hs
     ·obtain⟨b,h1,h2⟩:=any_eq_true.mp hb;exact .inr ⟨p,mX,(uT q).symm,any_eq_true.mpr ⟨b,h1,GA (λm hm=>pK l _ (Cp hm)) b h2⟩⟩
    ·exact absurd z hs
  ·exact .inr ⟨M,mZ _ hp,e,k⟩
theorem A8 {r:D}{n:Nat}(g:∀r∈ab,cf r)(hr:ab[n]? = some r){b:Bs}(hb:b∈eN ab aa (r,n))(e:b.1=none):∃(m:Nat)(q:D),b.2=(m:Int)/\ab[m]? = some q/\(q,m)∈ak ab aa/\bQ (q,m) (r,n)=true:=by
 unfold eN mV at hb;split at hb
 ·rename_i M;obtain⟨a,d,O,m,er⟩:=jU (g _ (vL hr)) M;have en:fY 2 r=m:=by rw[er];rfl
  simp only[en,toNat_natCast]at hb;split at hb
  ·rename_i hv;rw[mem_singleton]at hb;subst hb;unfold sC at hv;split at hv
   ·cases hv
   ·rename_i q hq;rw[vC,vC]at hv;refine⟨m,q,rfl,hq,mem_filter.mpr ⟨List.mk_mem_zipIdx_iff_getElem?.mpr hq,hv.1.1⟩,hv.2⟩
  ·cases hb
 ·unfold DD at hb;have hb:=(aX _ _).mem_iff.mp hb;unfold sy at hb;rcases mem_append.mp hb with z|z
  ·obtain⟨v,_,rfl⟩:=vO z;cases e
  ·obtain⟨y,hy,rfl⟩:=vO z;obtain⟨h1,h2⟩:=vN hy;unfold xh at h2;rw[vC]at h2;exact⟨y.2,y.1,rfl,(sx g h1).1,(vN (vN h1).1).1,h2.1⟩
end
theorem zx {p:Nat×List Bs}(hb:∀S,p.2.any (fZ S)=true):∀(l:List (Nat×List Bs))(S:LN),p∈l->p.1∈l.foldl cX S
 |q::l,S,h=>by
  rcases vP h with rfl|h
  ·exact pK l _ (by unfold cX;rw[if_pos (hb S)];simp)
  ·exact zx hb l _ h
section
variable {ab:LD}{aa:Int}
theorem GB (K:KL):(c8 K).Pairwise λa b=>bQ b a=false:=(gf _ _).imp λ{a b} h=>by
 have:=p9 _ _ _ (wP b a);rw[DP (show ¬cM (kA b)<cM (kA a)from h)]at this;exact this
theorem J5 {day:Int}{n m:Nat}{r q:D}(hr:(r,n)∈ak ab aa)(c:kindOf r∈bu)(hf:oe ab aa day (r,n)=true)(d:n∉bU ab aa day)(hb:((none,(m:Int)):Bs)∈eN ab aa (r,n))(hq:ab[m]? = some q)(g:bQ (q,m) (r,n)=true):m∉bU ab aa day:=λhm=>by
 have h:(r,n)∈c8 (ak ab aa):=(aX _ _).mem_iff.mpr (mem_filter.mpr ⟨hr,by rw[mW c];rfl⟩);have i:(r,n)∈l7 ab aa day (c8 (ak ab aa)):=mem_filter.mpr ⟨h,by rw[xq c,hf];rfl⟩;obtain⟨O,a,b⟩:=List.append_of_mem i;have M:=(GB (ak ab aa)).sublist (filter_sublist (l:=c8 (ak ab aa)) (p:=λx=>decide (kindOf x.1∈bu) && oe ab aa day x));rw[show(c8 (ak ab aa)).filter (λx=>decide (kindOf x.1∈bu) && oe ab aa day x)=O++(r,n)::a from b]at M;have T:∀x∈a,bQ x (r,n)=false:=(pairwise_cons.mp (List.pairwise_append.mp M).2.1).1;let f:D×Nat->Nat×List Bs:=λx=>(x.2,eN ab aa x);have e:bU ab aa day=(a.map f).foldl cX (cX ((O.map f).foldl cX []) (f (r,n))):=by
  unfold bU iF;rw[b,uW,foldl_append];rfl
 have U:∀x∈O++(r,n)::a,ab[x.2]? = some x.1:=λx hx=>by
  rw[<-b]at hx;exact br (vN ((aX _ _).mem_iff.mp (vN hx).1)).1
 have j:m∈(O.map f).foldl cX []:=by
  rw[e]at hm;rcases lu _ _ _ hm with z|z
  ·rcases zr z with z|z
   ·exact z
   ·have k:m=n:=z;subst k;exact absurd (e ▸ hm) d
  ·obtain⟨p,hp,rfl⟩:=vO z;obtain⟨x,hx,rfl⟩:=vO hp;have h1:=U x (mY _ (mZ _ hx));have h2:ab[x.2]? = some q:=hq;rw[h1]at h2;have h3:=T x hx;rw[show x=(q,x.2) by rw[<-vK h2]]at h3;rw[show bQ (q,x.2) (r,n)=true from g]at h3;cases h3
 have o:n∈cX ((O.map f).foldl cX []) (f (r,n)):=by
  unfold cX;rw[if_pos (any_eq_true.mpr ⟨_,hb,by
   unfold fZ;rw[or_eq_true];exact .inr (any_eq_true.mpr ⟨m,j,xq rfl⟩)⟩)]
  exact mY _ (mem_singleton.mpr rfl)
 exact d (e ▸ pK _ _ o)
theorem DK {day:Int}{n:Nat}{r:D}(hr:(r,n)∈ak ab aa)(O:kindOf r∈bu)(hf:oe ab aa day (r,n)=true)(T:n∉bU ab aa day){b:Bs}(hb:b∈eN ab aa (r,n)):b.1=none:=by
 cases e:b.1 with
 |none=>rfl
 |some o=>
  refine absurd ?_ T;have M:(r,n)∈c8 (ak ab aa):=(aX _ _).mem_iff.mpr (mem_filter.mpr ⟨hr,by rw[mW O];rfl⟩);refine zx (p:=(n,eN ab aa (r,n))) (λS=>any_eq_true.mpr ⟨b,hb,by unfold fZ;rw[e];rfl⟩) _ _ (uS ⟨(r,n),mem_filter.mpr ⟨M,by rw[xq O,hf];rfl⟩,rfl⟩)
end
theorem Cq (w:Str)(b:Bs):bD (ml w b) (.int 0)=sS (if b.1.isSome=true then "office" else w):=by rcases b with⟨_|o,n⟩<;>simp[ml,D0]
theorem zy:∀(l:List Rs),(l.map (·.1)).Nodup->∀p∈l,cu (l.map λp=>nK p.1) (l.map uI) (nK p.1)=some (uI p)
 |q::l,h,p,hp=>by
  rw[uY,nodup_cons]at h;show(if nK q.1=nK p.1 then some (uI q)else cu _ _ _)=_;rcases vP hp with rfl|hp
  ·rw[if_pos rfl]
  ·rw[if_neg λe=>?_,zy l h.2 p hp];have z:q.1=p.1:=by
    have:=Sum.inl.inj (show(Sum.inl _:dO)=Sum.inl _ from e);lia
   exact h.1 (uS ⟨p,hp,z.symm⟩)
theorem GC (a:D)(l:LD):jF (a::l) (some 1) none=l:=by
 unfold jF;rw[qV (by decide)];show List.take ((a::l).length - _) _=_;simp
theorem P0 (a:D)(l:LD):jF (a::l) (some 2) none=l.drop 1:=by
 unfold jF;rw[qV (by decide)];show List.take ((a::l).length - _) _=_;cases l with
 |nil=>rfl
 |cons b l=>simp
theorem Cr (z:Int)(zs:LI):ph (.int z) (.lst (zs.map .int))=sO (zs.any λy=>decide (y=z)):=by
 have M:(zs.map D.int).all fW=true:=by
  rw[all_eq_true];intro d hd;obtain⟨m,_,rfl⟩:=vO hd;rfl
 have O:∀zs:LI,DY (.int z) (zs.map .int)=zs.any λy=>decide (y=z):=λzs=>by
  induction zs with
  |nil=>rfl
  |cons y zs T=>
   show(cJ (.int y) (.int z) || DY (.int z) (zs.map .int))=_;rw[T,any_cons,cJ]
 simp only[ph,jq,vJ];rw[if_pos ⟨rfl,M⟩,O]
theorem J6 {α:Type}(l:List α)(f:α->Bool):zV [.lst (l.map λx=>.bl (f x))]=sO (l.all f):=by
 show(qi _).map _=_;rw[qU f,map_some,all_map];rfl
theorem MA (w:Str)(hw:decide (w=("office" : Str))=false)(R:List Bs)(hR:R.length<=100)(a:Int):jP [.lst (R.map (ml w)),.int a]=sO (R.any λb=>b.1.isSome && decide (b.2=a)):=by
 have hc:=fX (fi:=cn (ai 0)) (nT:=1) (cap:=[]) (tg:=dj 0) (c:=bw (f2 eV (dE 0 0) (fS "office"))) (fe:=dE 0 2) (ρ:=[sL (R.map (ml w)),sI a]) R (ml w) (λb=>b.1.isSome) (λb=>.int b.2) rfl (by lia) λx _=>by
  refine⟨[some (ml w x,false)],rfl,?_,λh=>⟨false,?_⟩⟩
  ·refine(bT (a:=if x.1.isSome=true then "office" else w) (b:="office") (bb:=false) (bC (ml w x) (.int 0) rfl rfl (Cq _ x)) rfl).trans ?_;cases x.1.isSome with
   |true=>simp
   |false=>rw[if_neg (by decide),hw]
  ·obtain⟨_|o,z⟩:=x
   ·cases h
   ·exact bC (ml w (some o,z)) (.int 2) rfl rfl ((DL.vp (by decide) (by show 2<_;simp)).trans rfl)
 refine av rfl (ax (fB (x:=.int a) (y:=.lst ((R.filter λb:Bs=>b.1.isSome).map λb:Bs=>D.int b.2)) (b1:=false) (b2:=true) rfl hc ?_));have:=Cr a ((R.filter λb:Bs=>b.1.isSome).map λb=>b.2);rw[uP,List.any_map,List.any_filter]at this;exact this
theorem J7 (w:Str)(hw:decide (w=("office" : Str))=false)(R:List Bs)(hR:R.length<=100)(a:Int):iT [.lst (R.map (ml w)),.int a]=sO (R.any λb=>!b.1.isSome && decide (b.2=a)):=by
 have hc:=fX (fi:=cn (ai 0)) (nT:=1) (cap:=[]) (tg:=dj 0) (c:=bw (f2 zT (dE 0 0) (fS "office"))) (fe:=dE 0 1) (ρ:=[sL (R.map (ml w)),sI a]) R (ml w) (λb=>!b.1.isSome) (λb=>.int b.2) rfl (by lia) λx _=>by
  refine⟨[some (ml w x,false)],rfl,?_,λh=>⟨false,?_⟩⟩
  ·refine(G0 (a:=if x.1.isSome=true then "office" else w) (b:="office") (bb:=false) (bC (ml w x) (.int 0) rfl rfl (Cq _ x))).trans ?_;cases x.1.isSome with
   |true=>simp
   |false=>rw[if_neg (by decide),hw]
  ·obtain⟨_|o,z⟩:=x
   ·exact bC (ml w (none,z)) (.int 1) rfl rfl (by simp[ml,BN])
   ·cases h
 refine av rfl (ax (fB (x:=.int a) (y:=.lst ((R.filter λb:Bs=>!b.1.isSome).map λb:Bs=>D.int b.2)) (b1:=false) (b2:=true) rfl hc ?_));have:=Cr a ((R.filter λb:Bs=>!b.1.isSome).map λb=>b.2);rw[uP,List.any_map,List.any_filter]at this;exact this
noncomputable def ft (l:List Rs)(z:Int):Bool:=l.any λp=>decide ((p.1:Int)=z)
theorem z4 (z:Int):∀l:List Rs,(cu (l.map λp=>nK p.1) (l.map uI) (.inl z)).isSome=ft l z
 |[]=>rfl
 |p::l=>by
  unfold ft;rw[uY,uY,cu,any_cons];by_cases h:nK p.1=.inl z
  ·rw[if_pos h,xq (Sum.inl.inj h)];rfl
  ·rw[if_neg h,DP λe=>h (congrArg Sum.inl e),Bool.false_or];exact z4 z l
theorem J8 {l:List Rs}(nd:(l.map (·.1)).Nodup){z:Int}(h:ft l z=true):∃p∈l,(p.1:Int)=z/\cu (l.map λp=>nK p.1) (l.map uI) (.inl z)=some (uI p):=by
 obtain⟨p,hp,e⟩:=any_eq_true.mp h;have e:=DQ e;refine⟨p,hp,e,?_⟩;rw[<-e];exact zy l nd p hp
noncomputable def ND (rs:Nat->List Bs)(a b:Int):Bool:=(rs b.toNat).any λx=>x.1.isSome && decide (x.2=a)
noncomputable def NE (rs:Nat->List Bs)(a b:Int):Bool:=(rs b.toNat).any λx=>!x.1.isSome && decide (x.2=a)
def U2 (l:List Rs)(rs:Nat->List Bs):LI->Bool
 |a::b::r=>(b::r).all (ft l) && (ND rs a b && ((b::r).zip r).all λp=>NE rs p.1 p.2)
 |_=>false
structure Il (l:List Rs)(rs:Nat->List Bs):Prop where
 nd:(l.map (·.1)).Nodup
 hw:∀p∈l,decide (p.2.1=("office" : Str))=false
 hb:∀p∈l,p.2.2.length<=100
 hr:∀p∈l,p.2.2=rs p.1
theorem Il.get (I:Il l rs){z:Int}(h:ft l z=true):∃w,decide (w=("office" : Str))=false/\(rs z.toNat).length<=100/\Ku (.dk (l.map λp=>nK p.1) (l.map uI)) (.int z)=sL ((rs z.toNat).map (ml w)):=by
 obtain⟨p,hp,e,hl⟩:=J8 I.nd h;have M:z.toNat=p.1:=by lia
 refine⟨p.2.1,I.hw p hp,by rw[M,<-I.hr p hp];exact I.hb p hp,?_⟩;show(cu (l.map λp=>nK p.1) (l.map uI) (.inl z)).map _=_;rw[hl,M,<-I.hr p hp];rfl
theorem DM {ab:LD}{aa day:Int}{l:List Rs}{rs:Nat->List Bs}(F:lm [.tup ab,.int aa,.int day]=sF (.dk (l.map λp=>nK p.1) (l.map uI)))(I:Il l rs)(zs:LI)(hz:zs.length<=1000):jQ [.tup ab,.int aa,.int day,.lst (zs.map .int)]=sO (U2 l rs zs):=by
 let A:D:=.dk (l.map λp=>nK p.1) (l.map uI);let E:DL.Env:=[sT ab,sI aa,sI day,sL (zs.map .int),sF A];have T:bw (f2 Km (fA gd (fV 3 aj)) (fI 2)) E=some (decide (zs.length<2)):=cY (bC (.int (zs.length:Nat)) (.int 2) (aN [.lst (zs.map .int)] rfl (by simp)) rfl (by
  show some (D.bl (decide ((zs.length:Int)<2)),false)=_;congr 3;exact decide_eq_decide.mpr (by lia)))
 refine av rfl (Sg (d:=A) (b:=false) (aN [.tup ab,.int aa,.int day] rfl F) rfl (.inl rfl) ?_);show aF _ _ E=_;rcases zs with _|⟨a,_|⟨b,r⟩⟩
 ·exact bA (cC (p:=true) (q:=true) T (by simp)) (ax rfl)
 ·exact bA (cC (p:=true) (q:=true) T (by simp)) (ax rfl)
 ·have T:bw (f2 Km (fA gd (fV 3 aj)) (fI 2)) E=some false:=T.trans (by rw[DP (by simp)]);have f:=kB (fi:=cn (Bh (ai 3) (iL (fI 1)) jp)) (nT:=1) (cap:=[4]) (tg:=dj 0) (fe:=f2 Mm (ai 0) (ai 1)) (ρ:=E) (b::r) .int (λz=>.bl (ft l z)) (by
    show some (jF (.int a::(b::r).map .int) (some 1) none)=_;rw[GC]) (by simp at hz |-;lia) λz _=>⟨[sI z,sF A],rfl,false,bC (.int z) A rfl rfl (by
     show some (D.bl (cu (l.map λp=>nK p.1) (l.map uI) (.inl z)).isSome,false)=_;rw[z4])⟩
  have c:bw (fA zV (af (bN (cn (Bh (ai 3) (iL (fI 1)) jp)) 1 [4] (dj 0) fM (f2 Mm (ai 0) (ai 1))) aj)) E=some ((b::r).all (ft l)):=cY (aN [.lst ((b::r).map λz=>.bl (ft l z))] (aI f rfl) (J6 _ _));show aF _ _ E=some (.rt (.bl ((b::r).all (ft l) && (ND rs a b && ((b::r).zip r).all λp=>NE rs p.1 p.2))) false);cases M:(b::r).all (ft l) with
  |false=>
   rw[M]at c;exact bA (cC (p:=false) (q:=true) T λ_=>bX c) (ax rfl)
  |true=>
   rw[M]at c;rw[Bool.true_and];have hf:∀z∈b::r,ft l z=true:=uR M;obtain⟨w,hw,O,hk⟩:=I.get (hf b mX);have e:bw (fA jP (af (f2 Ku (ai 4) (dE 3 1)) (af (dE 3 0) aj))) E=some (ND rs a b):=cY (aN [.lst ((rs b.toNat).map (ml w)),.int a] (cw (bC A (.int b) rfl (bC (.lst (.int a::.int b::r.map .int)) (.int 1) rfl rfl (by simp[BN])) hk) (cw (bC (.lst (.int a::.int b::r.map .int)) (.int 0) rfl rfl (by simp[D0])) rfl)) (MA w hw _ O a));refine aE (cC (p:=false) (q:=false) T λ_=>bX c) ?_;cases U:ND rs a b with
   |false=>
    rw[U]at e;exact bA (bX e) (ax rfl)
   |true=>
    rw[U]at e;rw[Bool.true_and];have g:=kB (fi:=FJ (Bh (ai 3) (iL (fI 1)) jp) (Bh (ai 3) (iL (fI 2)) jp)) (nT:=2) (cap:=[4]) (tg:=Kp [0,1]) (fe:=fA iT (af (f2 Ku (ai 2) (ai 1)) (fV 0 aj))) (ρ:=E) ((b::r).zip r) (λp=>.tup [.int p.1,.int p.2]) (λp=>.bl (NE rs p.1 p.2)) (by
      show some (CZ (jF (.int a::(b::r).map .int) (some 1) none) (jF (.int a::(b::r).map .int) (some 2) none))=_;rw[GC,P0];unfold CZ;show some (List.zipWith _ ((b::r).map D.int) (r.map D.int))=_;rw[List.zipWith_map,List.zip_eq_zipWith,List.map_zipWith]) (by rw[length_zip];simp at hz |-;lia) λp hp=>by
     obtain⟨w,hw,O,hk⟩:=I.get (hf p.2 (mZ _ (of_mem_zip hp).2));exact⟨[sI p.1,sI p.2,sF A],rfl,false,aN [.lst ((rs p.2.toNat).map (ml w)),.int p.1] (cw (bC A (.int p.2) rfl rfl hk) (cw rfl rfl)) (J7 w hw _ O p.1)⟩
    exact aE (bX e) (ax (aN [.lst (((b::r).zip r).map λp=>.bl (NE rs p.1 p.2))] (aI g rfl) (J6 _ _)))
section
variable {ab:LD}(g:∀r∈ab,cf r) (hl:ab.length<=30) (aa:Int) (hn:((bM (ak ab aa)).map (az 0)).Nodup) (ho:(c8 (ak ab aa)).length<=60)
theorem pL {day:Int}{p:Rs}(h:p∈gt ab aa day):∃r,ab[p.1]? = some r/\(r,p.1)∈ak ab aa/\bi r=false/\kindOf r∈bu/\oe ab aa day (r,p.1)=true/\p=(p.1,Ea r,eN ab aa (r,p.1)):=by
 obtain⟨x,hx,rfl⟩:=vO h;obtain⟨h1,h2⟩:=vN hx;rw[vC]at h2;obtain⟨hk,hr⟩:=vN ((aX _ _).mem_iff.mp h1);exact⟨x.1,br hk,hk,by simpa using hr,DQ h2.1,h2.2,rfl⟩
theorem J9 {day:Int}{n:Nat}{r:D}(hr:ab[n]? = some r):ft (gt ab aa day) (n:Int)=(decide (aU r<=aa) && (decide (kindOf r∈bu) && oe ab aa day (r,n))):=by
 rw[Bool.eq_iff_iff];unfold ft;rw[any_eq_true,vC,vC];constructor
 ·rintro⟨p,hp,e⟩;have e:p.1=n:=by have:=DQ e;lia
  obtain⟨O,h1,h2,_,h4,h5,_⟩:=pL aa hp;rw[e,hr]at h1;cases h1
  rw[e]at h5;exact⟨(vN h2).2,xq h4,h5⟩
 ·rintro⟨h1,h2,h3⟩;have M:bi r=false:=by
   have:∀k∈bu,decide (k = "root")=false:=by decide +kernel
   exact this _ (DQ h2)
  refine⟨(n,Ea r,eN ab aa (r,n)),uS ⟨(r,n),mem_filter.mpr ⟨(aX _ _).mem_iff.mpr (mem_filter.mpr ⟨mem_filter.mpr ⟨?_,h1⟩,by simp[M]⟩),by rw[h2,h3];rfl⟩,rfl⟩,xq rfl⟩;exact List.mem_iff_getElem?.mpr ⟨n,by rw[List.getElem?_zipIdx,hr];simp⟩
include hl in
theorem JB (day:Int):Il (gt ab aa day) (jY ab aa):=by
 refine⟨DJ aa day,Py aa day,Pz hl aa day,λp hp=>?_⟩;obtain⟨r,h1,_,_,_,_,e⟩:=pL aa hp;rw[e];show eN ab aa (r,p.1)=jY ab aa p.1;unfold jY;rw[h1]
end
noncomputable def Wf (rs:Nat->List Bs):Nat->Nat->List LI
 |0,_=>[]
 |k+1,n=>(rs n).flatMap λb=>if b.1.isSome=true then [[b.2,(n:Int)]]else (Wf rs k b.2.toNat).map (· ++ [(n:Int)])
theorem xj {rs:Nat->List Bs}{k n:Nat}{l:LI}:l∈Wf rs (k+1) n ↔ ∃b∈rs n,(b.1.isSome=true/\l=[b.2,(n:Int)])\/(b.1.isSome=false/\∃M∈Wf rs k b.2.toNat,l=M++[(n:Int)]):=by
 show l∈(rs n).flatMap (λb=>if b.1.isSome=true then [[b.2,(n:Int)]]else (Wf rs k b.2.toNat).map (· ++ [(n:Int)]))↔_;rw[List.mem_flatMap];refine exists_congr λb=>and_congr_right λ_=>?_;cases h:b.1.isSome with
 |true=>
  rw[if_pos rfl,mem_singleton];exact⟨λe=>.inl ⟨rfl,e⟩,λe=>e.elim And.right λz=>by cases z.1⟩
 |false=>
  rw[if_neg (by decide),mem_map];exact⟨λ⟨M,h1,h2⟩=>.inr ⟨rfl,M,h1,h2.symm⟩,λe=>e.elim (λz=>by cases z.1) λ⟨_,M,h1,h2⟩=>⟨M,h1,h2.symm⟩⟩
theorem nc {α M:Type}{f h:α->List M}:∀ {l:List α},(∀a∈l,f a=h a)->l.flatMap f=l.flatMap h
 |[],_=>rfl
 |a::l,e=>by rw[uO,uO,e a mX,nc λb hb=>e b (mZ _ hb)]
structure WayK (rs:Nat->List Bs)(k n:Nat)(l:List Int):Prop where
 ex:∃a b r,l=a::b::r/\ND rs a b=true/\((b::r).zip r).all (λp=>NE rs p.1 p.2)=true/\(b::r).getLast? = some (n:Int)/\r.length<k
theorem z5 (p:Int×Int->Bool)(n m:Int):∀(r:LI)(b:Int),((b::r).zip r).all p=true->(b::r).getLast? = some m->p (m,n)=true->((b::(r++[n])).zip (r++[n])).all p=true
 |[],b,_,h,q=>by
  cases h
  simpa using q
 |c::r,b,h,e,q=>by
  rw[zip_cons_cons,all_cons,vC]at h;rw[cons_append,zip_cons_cons,all_cons,h.1,Bool.true_and];exact z5 p n m r c h.2 (by rwa [List.getLast?_cons_cons]at e) q
theorem sJ {rs:Nat->List Bs}(hn:∀n,∀b∈rs n,b.1.isSome=false->∃m:Nat,b.2=(m:Int)):∀ {k n:Nat}{l:LI},l∈Wf rs k n->WayK rs k n l
 |0,n,l,h=>by cases h
 |k+1,n,l,h=>by
  obtain⟨b,hb,⟨h1,rfl⟩|⟨h1,T,M,rfl⟩⟩:=xj.mp h
  ·refine⟨b.2,n,[],rfl,any_eq_true.mpr ⟨b,by rw[toNat_natCast];exact hb,by rw[h1,xq rfl];rfl⟩,rfl,rfl,Nat.succ_pos _⟩
  ·obtain⟨m,O⟩:=hn n b hb h1;obtain⟨x,y,r,rfl,h2,h3,h4,h5⟩:=(sJ hn M).ex;rw[O,toNat_natCast]at h4;refine⟨x,y,r++[(n:Int)],rfl,h2,z5 _ _ _ r y h3 h4 (any_eq_true.mpr ⟨b,by rw[toNat_natCast];exact hb,by rw[h1,xq O];rfl⟩),?_,by rw[uZ,length_singleton];lia⟩;rw[<-cons_append,List.getLast?_append];rfl
section
variable {ab:LD}{aa:Int}
def oh (ab:LD)(aa:Int)(n:Nat):Nat:=match ab[n]? with
 |some r=>((ak ab aa).filter λz=>bQ z (r,n)).length
 |none=>0
def xu (ab:LD)(aa:Int)(n:Nat):Bool:=match ab[n]? with
 |some r=>decide (aU r<=aa) && decide (kindOf r∈bu)
 |none=>false
theorem jV {n:Nat}(h:xu ab aa n=true):∃r,ab[n]? = some r/\aU r<=aa/\kindOf r∈bu/\(r,n)∈ak ab aa:=by
 unfold xu at h;split at h
 ·rename_i r hr;rw[vC]at h;exact⟨r,hr,DQ h.1,DQ h.2,mem_filter.mpr ⟨List.mk_mem_zipIdx_iff_getElem?.mpr hr,h.1⟩⟩
 ·cases h
theorem A9 {n:Nat}{r:D}(hr:ab[n]? = some r)(hh:(r,n)∈ak ab aa)(M:kindOf r∈bu):xu ab aa n=true:=by
 unfold xu;rw[hr];show(decide (aU r<=aa) && decide (kindOf r∈bu))=true;rw[xq M,show decide (aU r<=aa)=true from(vN hh).2];rfl
theorem sK {n m:Nat}{r q:D}(hr:ab[n]? = some r)(hq:ab[m]? = some q)(hh:(q,m)∈ak ab aa)(h:bQ (q,m) (r,n)=true):oh ab aa m<oh ab aa n:=by
 unfold oh;rw[hr,hq];exact G8 _ hh h
theorem MB {n m:Nat}(hn:xu ab aa n=true)(hm:xu ab aa m=true)(e:oh ab aa n=oh ab aa m):n=m:=by
 obtain⟨r,hr,_,_,hh⟩:=jV hn;obtain⟨q,hq,_,_,M⟩:=jV hm;rcases Nat.lt_trichotomy n m with h|h|h
 ·rcases Int.lt_trichotomy (aG r) (aG q)with d|d|d
  ·have:=sK hq hr hh (xq (.inl d));lia
  ·have:=sK hq hr hh (xq (.inr ⟨d,by show(n:Int)<m;lia⟩));lia
  ·have:=sK hr hq M (xq (.inl d));lia
 ·exact h
 ·rcases Int.lt_trichotomy (aG r) (aG q)with d|d|d
  ·have:=sK hq hr hh (xq (.inl d));lia
  ·have:=sK hr hq M (xq (.inr ⟨d.symm,by show(m:Int)<n;lia⟩));lia
  ·have:=sK hr hq M (xq (.inl d));lia
theorem Cs (n:Nat):oh ab aa n<=ab.length:=by
 unfold oh;split
 ·exact vR (vM _ _) (cq ab aa)
 ·exact uN _
variable (g:∀r∈ab,cf r)
include g
theorem gy {n:Nat}{b:Bs}(hb:b∈jY ab aa n)(e:b.1.isSome=false):∃m:Nat,b.2=(m:Int)/\xu ab aa m=true/\oh ab aa m<oh ab aa n/\∃r q,ab[n]? = some r/\ab[m]? = some q/\bQ (q,m) (r,n)=true:=by
 unfold jY at hb;split at hb
 ·rename_i r hr;have e:b.1=none:=by cases z:b.1 with
   |none=>rfl
   |some o=>rw[z]at e;cases e
  obtain⟨m,q,M,hq,hh,hk⟩:=A8 g hr hb e;refine⟨m,M,A9 hq hh ?_,sK hr hq hh hk,r,q,hr,hq,hk⟩;unfold eN mV at hb;split at hb
  ·rename_i T;obtain⟨a,d,U,O,er⟩:=jU (g _ (vL hr)) T;have en:fY 2 r=O:=by rw[er];rfl
   simp only[en,toNat_natCast]at hb;split at hb
   ·rename_i hv;rw[mem_singleton]at hb;subst hb;have:m=O:=by have:(O:Int)=m:=M;lia
    subst this;unfold sC at hv;rw[hq]at hv;rw[vC,vC]at hv;have:=DQ hv.1.2;exact mZ _ this
   ·cases hb
  ·unfold DD at hb;have hb:=(aX _ _).mem_iff.mp hb;unfold sy at hb;rcases mem_append.mp hb with z|z
   ·obtain⟨v,_,rfl⟩:=vO z;cases e
   ·obtain⟨y,hy,rfl⟩:=vO z;obtain⟨h1,h2⟩:=vN hy;have M:(y.2:Int)=m:=M;have:y.2=m:=by lia
    have h3:=sx g h1;rw[this,hq]at h3;rw[vK h3.1,h3.2.2];decide +kernel
 ·cases hb
theorem K5:∀(k n:Nat),oh ab aa n<k->Wf (jY ab aa) k n=Wf (jY ab aa) (k+1) n
 |0,_,h=>absurd h (not_lt_zero _)
 |k+1,n,h=>by
  show(jY ab aa n).flatMap _=(jY ab aa n).flatMap _;refine nc λb hb=>?_;cases e:b.1.isSome with
  |true=>rfl
  |false=>
   obtain⟨m,M,_,O,_⟩:=gy g hb e;show(Wf (jY ab aa) k b.2.toNat).map _=(Wf (jY ab aa) (k+1) b.2.toNat).map _;rw[M,toNat_natCast,K5 k m (by lia)]
theorem xm (day:Int):∀(k n:Nat),oh ab aa n<k->((∃l∈Wf (jY ab aa) k n,(l.drop 1).all (ft (gt ab aa day))=true)↔n∈bU ab aa day)
 |0,_,h=>absurd h (not_lt_zero _)
 |k+1,n,h=>by
  have T:ft (gt ab aa day) (n:Int)=true->∃r,ab[n]? = some r/\(r,n)∈ak ab aa/\kindOf r∈bu/\oe ab aa day (r,n)=true/\jY ab aa n=eN ab aa (r,n):=λhf=>by
   obtain⟨p,hp,e⟩:=any_eq_true.mp hf;have e:p.1=n:=by have:=DQ e;lia
   obtain⟨r,h1,h2,_,h3,h4,_⟩:=pL aa hp;rw[e]at h1 h2 h4;exact⟨r,h1,h2,h3,h4,by unfold jY;rw[h1]⟩
  constructor
  ·rintro⟨l,hl,ha⟩;obtain⟨b,hb,⟨h1,rfl⟩|⟨h1,i,M,rfl⟩⟩:=xj.mp hl
   ·have hf:ft (gt ab aa day) (n:Int)=true:=by simpa using ha
    obtain⟨r,hr,hh,a,hv,er⟩:=T hf;rw[er]at hb;by_cases U:n∈bU ab aa day
    ·exact U
    ·rw[DK hh a hv U hb]at h1;cases h1
   ·obtain⟨m,O,bm,j,t,q,d,hq,hk⟩:=gy g hb h1;rw[O,toNat_natCast]at M;obtain⟨x,y,c,rfl,_⟩:=(sJ (λn b hb h1=>let ⟨m,O,_⟩:=gy g hb h1;⟨m,O⟩) M).ex;have ha:((x::y::c).drop 1++[(n:Int)]).all (ft (gt ab aa day))=true:=ha;rw[List.all_append,vC]at ha;have hm:=(xm day k m (by lia)).mp ⟨_,M,ha.1⟩;have hf:ft (gt ab aa day) (n:Int)=true:=by simpa using ha.2
    obtain⟨r,hr,hh,a,hv,er⟩:=T hf;rw[er]at hb;by_cases U:n∈bU ab aa day
    ·exact U
    ·have s:b=(none,(m:Int)):=by
      have:b.1=none:=by cases z:b.1 with
       |none=>rfl
       |some o=>rw[z]at h1;cases h1
      rw[<-O,<-this]
     rw[s]at hb;rw[hr]at d;cases d
     exact absurd hm (J5 hh a hv U hb hq hk)
  ·intro U;obtain⟨r,hr,hh,a,hi⟩:=G9 U;have hf:ft (gt ab aa day) (n:Int)=true:=any_eq_true.mpr ⟨_,hi,xq rfl⟩;have er:jY ab aa n=eN ab aa (r,n):=by unfold jY;rw[hr]
   obtain⟨b,hb,hv⟩:∃b∈jY ab aa n,fZ (bU ab aa day) b=true:=by
    rw[er];rcases sG _ _ _ U with z|⟨p,hp,e,hb⟩
    ·cases z
    ·obtain⟨x,hx,rfl⟩:=vO hp;have f:x.2=n:=e;have h1:ab[x.2]? = some x.1:=br (vN ((aX _ _).mem_iff.mp (vN hx).1)).1;rw[f,hr]at h1;have ex:x=(r,n):=by rw[<-f,vK h1]
     rw[ex]at hb;exact any_eq_true.mp hb
   cases h1:b.1.isSome with
   |true=>exact⟨_,xj.mpr ⟨b,hb,.inl ⟨h1,rfl⟩⟩,by simpa using hf⟩
   |false=>
    obtain⟨m,O,bm,j,_⟩:=gy g hb h1;unfold fZ at hv;rw[h1,Bool.false_or,O,xi]at hv;obtain⟨i,M,ha⟩:=(xm day k m (by lia)).mpr (DQ hv);obtain⟨x,y,c,rfl,_⟩:=(sJ (λn b hb h1=>let ⟨m,O,_⟩:=gy g hb h1;⟨m,O⟩) M).ex;refine⟨_,xj.mpr ⟨b,hb,.inr ⟨h1,_,by rw[O,toNat_natCast];exact M,rfl⟩⟩,?_⟩;show((x::y::c).drop 1++[(n:Int)]).all _=true;rw[List.all_append,ha,all_cons,hf];rfl
omit g in
theorem MC {k n:Nat}{l:LI}{its:List Rs}{rs:Nat->List Bs}(h:WayK rs k n l):U2 its rs l=(l.drop 1).all (ft its):=by
 obtain⟨a,b,r,rfl,h1,h2,_⟩:=h.ex;show((b::r).all (ft its) && (ND rs a b && ((b::r).zip r).all λp=>NE rs p.1 p.2))=(b::r).all (ft its);rw[h1,h2,Bool.and_true,Bool.and_true]
end
theorem xn:∀(r:Nat)(l:LN),l.Nodup->(∀x∈l,x<r)->(l.map (2 ^ ·)).sum+1<=2 ^ r
 |0,l,_,h=>by
  cases l with
  |nil=>exact vT _
  |cons a l=>exact absurd (h a mX) (not_lt_zero _)
 |r+1,l,nd,h=>by
  rw[Nat.pow_succ];by_cases hr:r∈l
  ·have:=((List.perm_cons_erase hr).map (2 ^ ·)).sum_nat;rw[this,uY,sum_cons];have:=xn r (l.erase r) (nd.erase r) λx hx=>by
    have h1:=(List.Nodup.mem_erase_iff nd).mp hx;have:=h x h1.2;have:=h1.1;lia
   lia
  ·have:=xn r l nd λx hx=>by
    have:=h x hx;have:x≠r:=λe=>hr (e ▸ hx);lia
   have:=Nat.one_le_two_pow (n:=r);lia
theorem AA {α:Type}{f h:α->Nat}:∀ {l:List α},(∀a∈l,f a<=h a)->(l.map f).sum<=(l.map h).sum
 |[],_=>vT _
 |a::l,e=>by
  rw[uY,uY,sum_cons,sum_cons];have:=e a mX;have:=AA λb hb=>e b (mZ _ hb);lia
theorem Ct (c:Nat):∀l:LN,(l.map (c * ·)).sum=c*l.sum
 |[]=>rfl
 |a::l=>by rw[uY,sum_cons,sum_cons,Ct c l,Nat.mul_add]
theorem GD {α:Type}:∀l:List α,(l.map λ_=>1).sum=l.length
 |[]=>rfl
 |a::l=>by rw[uY,sum_cons,GD l,vE,Nat.add_comm]
section
variable {ab:LD}{aa:Int}(g:∀r∈ab,cf r)
include g
theorem GF (n:Nat):∃(O:List Bs)(M:LN),(jY ab aa n).Perm (O++M.map λ(m:Nat)=>((none,(m:Int)):Bs))/\O.length<=ab.length/\(∀b∈O,b.1.isSome=true)/\M.Nodup:=by
 unfold jY;split
 ·rename_i r hr;unfold eN mV;split
  ·rename_i U;obtain⟨a,d,c,T,er⟩:=jU (g _ (vL hr)) U;have en:fY 2 r=T:=by rw[er];rfl
   simp only[en];split
   ·exact⟨[],[T],.refl _,uN _,by simp,by simp⟩
   ·exact⟨[],[],.refl _,uN _,by simp,by simp⟩
  ·refine⟨((bM (ak ab aa)).filter (sv (bp (ak ab aa)) r)).map (U1 (bp (ak ab aa)) r),(((pz (ak ab aa) (cW r)).filter (xh r n)).map (·.2)),?_,?_,?_,?_⟩
   ·unfold DD sy;rw[uP];exact aX _ _
   ·rw[vI];refine vR (vM _ _) ?_;unfold bM;rw[vI];exact vR (vM _ _) (cq ab aa)
   ·intro b hb;obtain⟨v,_,rfl⟩:=vO hb;rfl
   ·exact List.Nodup.sublist (List.Sublist.map _ (filter_sublist.trans (filter_sublist.trans filter_sublist))) (dz ab aa)
 ·exact⟨[],[],.refl _,uN _,by simp,by simp⟩
theorem GG (hl:ab.length<=14):∀(k n:Nat),(Wf (jY ab aa) k n).length<=14*2 ^ oh ab aa n
 |0,_=>uN _
 |k+1,n=>by
  obtain⟨O,M,pm,U,c,d⟩:=GF (aa:=aa) g n;show((jY ab aa n).flatMap λb=>if b.1.isSome=true then [[b.2,(n:Int)]]else (Wf (jY ab aa) k b.2.toNat).map (· ++ [(n:Int)])).length<=_;rw[List.length_flatMap,(pm.map _).sum_nat,uW,List.sum_append];have h1:(O.map λb=>(if b.1.isSome=true then [[b.2,(n:Int)]]else (Wf (jY ab aa) k b.2.toNat).map (· ++ [(n:Int)])).length).sum<=14:=by
   refine vR (AA (h:=λ_=>1) λb hb=>?_) (by rw[GD];exact vR U hl);rw[if_pos (c b hb)];exact vT _
  have hm:∀m∈M,xu ab aa m=true/\oh ab aa m<oh ab aa n:=λm hm=>by
   obtain⟨T,e,h2,h3,_⟩:=gy g (b:=(none,(m:Int))) (pm.mem_iff.mpr (mY _ (uS ⟨m,hm,rfl⟩))) rfl;have:m=T:=by have e:(m:Int)=T:=e;lia
   rw[this];exact⟨h2,h3⟩
  have h2:=xn (oh ab aa n) (M.map (oh ab aa)) (pairwise_map.mpr (List.Pairwise.imp_of_mem (λ{a b} ha hb hab e=>hab (MB (hm a ha).1 (hm b hb).1 e)) d)) λx hx=>by
   obtain⟨m,h,rfl⟩:=vO hx;exact(hm m h).2
  have h3:((M.map λ(m:Nat)=>((none,(m:Int)):Bs)).map λb=>(if b.1.isSome=true then [[b.2,(n:Int)]]else (Wf (jY ab aa) k b.2.toNat).map (· ++ [(n:Int)])).length).sum<=14*((M.map (oh ab aa)).map (2 ^ ·)).sum:=by
   rw[<-Ct,uP,uP,uP];refine AA λm hm=>?_;show((Wf (jY ab aa) k ((m:Int)).toNat).map (· ++ [(n:Int)])).length<=14*2 ^ oh ab aa m;rw[vI,toNat_natCast];exact GG hl k m
  refine vR (Nat.add_le_add h1 h3) ?_;clear h1 h3;generalize ((M.map (oh ab aa)).map (2 ^ ·)).sum=x at h2 |-;generalize 2 ^ oh ab aa n=y at h2 |-;lia
end
theorem JD (rs:Nat->List Bs)(k n:Nat):Wf rs (k+1) n=(rs n).flatMap λb=>if b.1.isSome=true then [[b.2,(n:Int)]]else (Wf rs k b.2.toNat).map (· ++ [(n:Int)]):=rfl
def Wz (ab:LD)(aa:Int)(z:Int):List LI:=Wf (jY ab aa) 40 z.toNat
def K6 (ab:LD)(aa:Int)(z:Int):Nat:=if xu ab aa z.toNat=true then oh ab aa z.toNat else 200
theorem MD {ab:LD}{aa:Int}{n:Nat}:oh ab aa n<=ab.length - 1:=by
 unfold oh;split
 ·rename_i r hr;unfold ak;rw[filter_filter];have:=List.length_filter_lt_length_iff_exists (p:=λz=>bQ z (r,n) && decide (aU z.1<=aa)) (l:=ab.zipIdx) |>.mpr ⟨(r,n),List.mk_mem_zipIdx_iff_getElem?.mpr hr,by simp[bQ]⟩;rw[length_zipIdx]at this;exact Nat.le_sub_one_of_lt this
 ·exact uN _
section
variable {ab:LD}(g:∀r∈ab,cf r) (hl:ab.length<=14) (aa:Int)
include g hl
theorem AB (n:Nat):(Wz ab aa n).length<=200000:=by
 unfold Wz;rw[toNat_natCast];refine vR (GG g hl 40 n) ?_;have h1:oh ab aa n<=13:=vR MD (Nat.sub_le_sub_right hl 1);exact vR (Nat.mul_le_mul_left 14 (Nat.pow_le_pow_right (by decide) h1)) (by decide)
omit hl in
theorem ME {k n:Nat}(hk:oh ab aa n<=k):Wf (jY ab aa) (k+1) n=(jY ab aa n).flatMap λb=>if b.1.isSome=true then [[b.2,(n:Int)]]else (Wf (jY ab aa) (k+1) b.2.toNat).map (· ++ [(n:Int)]):=by
 refine(JD _ k n).trans (nc λb hb=>?_);cases e:b.1.isSome with
 |true=>rfl
 |false=>
  obtain⟨m,O,_,M,_⟩:=gy g hb e;rw[if_neg (by decide),if_neg (by decide),O,toNat_natCast,K5 g k m (vQ M hk)]
theorem P1 {n:Nat}:Wz ab aa n=(jY ab aa n).flatMap λb=>tp (Wz ab aa) n (b.1.isSome,b.2):=by
 have h:=ME g aa (k:=39) (n:=n) (vR (vR (Cs n) hl) (by decide));have e:Wz ab aa n=Wf (jY ab aa) (39+1) n:=by unfold Wz;rw[toNat_natCast]
 exact(e.trans h).trans (nc λb _=>rfl)
variable (hn:((bM (ak ab aa)).map (az 0)).Nodup) (ho:(c8 (ak ab aa)).length<=60)
include hn ho
theorem MF {n:Nat}(h:xu ab aa n=true):∃w,decide (w=("office" : Str))=false/\pJ [.tup ab,.int aa,.int n]=lT ((jY ab aa n).map (ml w)):=by
 obtain⟨r,hr,hk,O,_⟩:=jV h;obtain⟨T,M⟩:=nW (ab:=ab) ⟨by lia,λr hr=>(g r hr).c⟩ aa ho;have U:jY ab aa n=eN ab aa (r,n):=by unfold jY;rw[hr]
 refine⟨Ea r,A7 r,?_⟩;rw[U];exact av rfl (ax (aN [.tup ab,.int aa,.lst ((bp (ak ab aa)).map aY),.int n] (cw rfl (cw rfl (aI (aN [.tup ab,.int aa] rfl T) (cw rfl rfl)))) (Ck g (by lia) aa hn _ M hr O hk)))
theorem Ww (n:Nat)(hr:K6 ab aa n<100):WOk ab aa (Wz ab aa) (K6 ab aa) n:=by
 have hb:xu ab aa n=true:=by
  cases h:xu ab aa n with
  |true=>rfl
  |false=>unfold K6 at hr;rw[toNat_natCast,h,if_neg (by decide)]at hr;exact absurd hr (by decide)
 obtain⟨w,hw,d⟩:=MF g hl aa hn ho hb;have M:∀ {m:Nat},xu ab aa m=true->K6 ab aa m=oh ab aa m:=λh=>by unfold K6;rw[toNat_natCast,if_pos h]
 refine⟨⟨(jY ab aa n).map λb=>(ml w b,b.1.isSome,b.2),true,by rw[uP];exact d,λx hx=>?_,λx hx he=>?_,?_⟩,AB g hl aa n⟩
 ·obtain⟨b,_,rfl⟩:=vO hx;rcases b with⟨_|o,z⟩
  ·exact⟨⟨w,rfl,hw⟩,rfl⟩
  ·exact⟨⟨_,rfl,rfl⟩,rfl⟩
 ·obtain⟨b,O,rfl⟩:=vO hx;obtain⟨m,T,hm,U,_⟩:=gy g O he;have h1:oh ab aa m<=14:=vR (Cs m) hl;obtain⟨q,hq,_⟩:=jV hm;have:=(vV hq).1;refine⟨m,T,by lia,by rw[M hm,M hb];exact U,AB g hl aa m,λl c=>?_⟩;obtain⟨a,b,r,rfl,_,_,_,h5⟩:=(sJ (λn b hb h1=>let ⟨m,T,_⟩:=gy g hb h1;⟨m,T⟩) c).ex;rw[vE,vE];lia
 ·rw[P1 g hl aa,List.flatMap_map]
theorem MG {n:Nat}(day:Int)(h:xu ab aa n=true):rF [.tup ab,.int aa,.int day,.int n]=sO (ft (gt ab aa day) n):=by
 obtain⟨r,hr,hk,M,_⟩:=jV h;have O:=g r (vL hr);rw[J9 aa hr,xq hk,xq M,Bool.true_and,Bool.true_and];let E:DL.Env:=[sT ab,sI aa,sI day,sI n];have eR:f2 bD (ai 0) (ai 3) E=sF r:=bC (.tup ab) (.int n) rfl rfl (by simp[cD hr]);obtain⟨h,k,aH,er,dd⟩:=O;have T:bD r (.int 1)=sT (.str k::aH):=by rw[er];simp[row,BN]
 have ek:kindOf r=k:=by rw[er];rfl
 rw[ek]at M;obtain⟨d,q,eq⟩:=dd.cd.day (by intro e;rw[e]at M;exact absurd M (by decide +kernel));have ed:aG r=d:=by rw[er,eq];rfl
 have U:bw (f2 CP (f2 bD (f2 bD (f2 bD (ai 0) (ai 3)) (fI 1)) (fI 1)) (ai 2)) E=some (decide (day<aG r)):=cY (bC (.int d) (.int day) (bC (.tup (.str k::aH)) (.int 1) (bC r (.int 1) eR rfl T) rfl (by rw[eq];simp[BN])) rfl (by rw[ed];rfl));have a:bw (fA dU (fV 0 (fV 1 (fV 3 aj)))) E=some (gN ab aa r):=cY (aN [.tup ab,.int aa,.int n] rfl (mL ab (λr hr=>(g r hr).c.rp) (by lia) aa hr));have h2:=cC U λ_=>bX a;unfold oe;by_cases hd:aG r<=day
 ·rw[DP (show ¬day<aG r by lia),Bool.false_or]at h2;rw[xq hd,Bool.and_true];cases hs:gN ab aa r with
  |false=>
   rw[hs]at h2;exact av rfl (bA h2 (ax rfl))
  |true=>
   rw[hs]at h2;rw[Bool.true_and];refine av rfl (aE h2 (ax ?_));refine fB (x:=.lst ((jg ab aa n r day).map λn:Nat=>.int n)) (y:=.lst []) (b1:=true) (b2:=true) (aN [.tup ab,.int aa,.int n,.int day] rfl (G1 g (by lia) aa hn ho hr day)) rfl ?_;refine(if_pos ⟨?_,rfl⟩).trans (by cases jg ab aa n r day<;>simp)
   ·show((jg ab aa n r day).map λn:Nat=>D.int n).all (aQ 39)=true;rw[all_map,all_eq_true];exact λ_ _=>rfl
 ·rw[xq (show day<aG r by lia),Bool.true_or]at h2;rw[DP hd,Bool.and_false,Bool.false_and];exact av rfl (bA h2 (ax rfl))
end
theorem Sr (ds:LD):jF ds none (some (8:Int))=ds.take 8:=by
 unfold jF;rw[qV (by decide)];show(ds.drop 0).take (min 8 ds.length - 0)=_;rw[List.drop_zero,Nat.sub_zero,<-List.take_eq_take_min]
theorem Cu {α:Type}{tg:FG}{c:FT}{fe:FE}{ρ:DL.Env}{gD:α->D}{p:α->Bool}{h:α->D}:∀l:List α,(∀x∈l,∃M,tg (gD x) ρ=some M/\c M=some (p x)/\∃b,fe M=some (h x,b))->fg tg c fe ρ (l.map gD)=some ((l.filter p).map h)
 |[],_=>by simp
 |x::l,k=>by
  obtain⟨M,h1,h2,b,h4⟩:=k x mX;have O:=Cu l λy hy=>k y (mZ _ hy);rw[uY,lM,h1,vJ,h2,vJ];cases hp:p x with
  |false=>simp[hp,O]
  |true=>simp[hp,O,h4]
theorem P2 {l:LI}{G:List LI}:QK (cG l) (oD G)=sO (decide (l∈G)):=by
 show(if Av (cG l)=true/\(G.map cG).all Av=true then some (D.bl ((G.map cG).any λd=>cJ d (cG l)),false)else none)=_;rw[if_pos ⟨FR l,by rw[all_map];exact all_eq_true.mpr λx _=>FR x⟩,List.any_map];refine congrArg (λb=>sO b) ?_;rw[Bool.eq_iff_iff,any_eq_true,decide_eq_true_iff];constructor
 ·rintro⟨x,hx,e⟩;have e:cJ (cG x) (cG l)=true:=e;rw[wL]at e;exact DQ e ▸ hx
 ·exact λh=>⟨l,h,(wL l l).trans (xq rfl)⟩
section
variable {ab:LD}(g:∀r∈ab,cf r) (hl:ab.length<=14) (aa day:Int)
noncomputable def DN (ab:LD)(aa:Int):LN:=(List.range ab.length).filter (xu ab aa)
def JF (ab:LD)(aa day:Int):LN:=(DN ab aa).filter λ(n:Nat)=>ft (gt ab aa day) n
def Gz (ab:LD)(aa day:Int)(z:Int):List LI:=(Wz ab aa z).filter λl=>(l.drop 1).all (ft (gt ab aa day))
theorem xo {n:Nat}:n∈DN ab aa↔xu ab aa n=true:=by
 unfold DN;rw[mem_filter,mem_range];refine⟨And.right,λh=>⟨?_,h⟩⟩;obtain⟨r,hr,_⟩:=jV h;exact(vV hr).1
theorem MH (z:Int):((JF ab aa day).any λm=>decide ((m:Int)=z))=ft (gt ab aa day) z:=by
 rw[Bool.eq_iff_iff,any_eq_true];constructor
 ·rintro⟨m,hm,e⟩;have:=(vN hm).2;rwa [DQ e]at this
 ·intro h;obtain⟨p,hp,e⟩:=any_eq_true.mp h;have e:=DQ e;obtain⟨r,h1,h2,_,h3,_,_⟩:=pL aa hp;exact⟨p.1,mem_filter.mpr ⟨(xo aa).mpr (A9 h1 h2 h3),by show ft (gt ab aa day) (p.1:Int)=true;rw[e];exact h⟩,xq e⟩
theorem MI (l:LI)(hz:1<=l.length)(hl:l.length<=1000)(b b':Bool):Sl [some (cG l,b),some (.lst ((JF ab aa day).map λ(n:Nat)=>.int n),b')]=some ((l.drop 1).all (ft (gt ab aa day))):=by
 obtain⟨a,t,rfl⟩:∃a t,l=a::t:=match l,hz with
  |a::t,_=>⟨a,t,rfl⟩
 have M:=kB (fi:=cn (Bh (ai 0) (iL (fI 1)) jp)) (nT:=1) (cap:=[1]) (tg:=dj 0) (fe:=f2 ph (ai 0) (ai 1)) (ρ:=[some (cG (a::t),b),some (.lst ((JF ab aa day).map λ(n:Nat)=>.int n),b')]) t D.int (λz=>.bl (ft (gt ab aa day) z))
  (by
   show(some (D.lst (jF ((a::t).map D.int) (some 1) none),true)).bind _=_;rw[uY,GC];rfl)
  (by rw[vE]at hl;exact vR (Nat.le_of_succ_le hl) (by decide)) λz _=>⟨[sI z,sL ((JF ab aa day).map λ(n:Nat)=>.int n)],rfl,false,by
   refine fB (x:=.int z) (y:=.lst ((JF ab aa day).map λ(n:Nat)=>.int n)) (b1:=false) (b2:=false) rfl rfl ?_;rw[sE,MH]⟩
 exact cY (aN [.lst (t.map λz=>.bl (ft (gt ab aa day) z))] (aI M rfl) (J6 t _))
include g hl
theorem GH {n:Nat}{l:LI}(h:l∈Wz ab aa n):WayK (jY ab aa) 40 n l:=by
 unfold Wz at h;rw[toNat_natCast]at h;exact sJ (λn b hb h1=>let ⟨m,M,_⟩:=gy g hb h1;⟨m,M⟩) h
theorem AD {n:Nat}{l:LI}(h:l∈Wz ab aa n):1<=l.length/\l.length<=1000:=by
 obtain⟨a,b,r,rfl,_,_,_,h5⟩:=(GH g hl aa h).ex;rw[vE,vE];lia
theorem MJ (n:Nat):(0<(Gz ab aa day n).length)↔n∈bU ab aa day:=by
 rw[List.length_pos_iff_exists_mem,<-xm g day 40 n (lt_of_le_of_lt (vR (Cs n) hl) (by decide))];unfold Gz;refine exists_congr λl=>?_;rw[mem_filter];unfold Wz;rw[toNat_natCast]
variable (hn:((bM (ak ab aa)).map (az 0)).Nodup) (ho:(c8 (ak ab aa)).length<=60)
include hn ho
theorem DO:lm [.tup ab,.int aa,.int day]=sF (.dk ((gt ab aa day).map λp=>nK p.1) ((gt ab aa day).map uI)):=by
 rw[zp g (by lia) aa hn ho day];unfold gt;rw[uP,uP];rfl
theorem Wx:Cnd ab aa day (iG (bU ab aa day)) (DN ab aa) ((JF ab aa day).map λ(n:Nat)=>.int n) (Wz ab aa) (Gz ab aa day) (K6 ab aa) where
 ways n _ hr:=Ww g hl aa hn ho n hr
 dom a ha:=by
  have hb:=(xo aa).mp ha;obtain⟨r,hr,_⟩:=jV hb;have:=(vV hr).1;refine⟨by lia,?_⟩;unfold K6;rw[toNat_natCast,if_pos hb];exact lt_of_le_of_lt (vR (Cs a) hl) (by decide)
 good a ha:=by
  refine⟨Cu (gD:=cG) (p:=λl=>(l.drop 1).all (ft (gt ab aa day))) (h:=cG) _ λl h=>⟨_,rfl,MI aa day l (AD g hl aa h).1 (AD g hl aa h).2 false false,false,rfl⟩,AB g hl aa a⟩
 test a ha:=by
  refine cY (fB (x:=.bl (decide (a∈bU ab aa day))) (y:=.bl (decide (a∈bU ab aa day))) (b1:=false) (b2:=false) ?_ ?_ ?_)
  ·exact fB (x:=.int a) (y:=.lst (iG (bU ab aa day))) (b1:=false) (b2:=false) rfl rfl (J0 a _)
  ·refine fB (x:=.int ((Gz ab aa day a).length:Nat)) (y:=.int 0) (b1:=false) (b2:=false) (aN [oD (Gz ab aa day a)] rfl (by simp)) rfl ?_;show some (D.bl (decide ((0:Int)<((Gz ab aa day a).length:Nat))),false)=_;congr 3;rw[Bool.eq_iff_iff,decide_eq_true_iff,decide_eq_true_iff,<-MJ g hl aa day a];exact Int.natCast_pos
  ·exact zw rfl
 slc a ha:=by
  refine⟨true,?_⟩;show some (D.lst (jF ((Wz ab aa a).map cG) none (some (8:Int))),true)=_;rw[Sr,List.map_take]
 chn a ha l h:=by
  have hm:=List.mem_of_mem_take h;have hw:=GH g hl aa hm;have O:jQ [.tup ab,.int aa,.int day,.lst (l.map .int)]=sO (decide (l∈Gz ab aa day a)):=by
   rw[DM (DO g hl aa day hn ho) (JB (by lia) aa day) l (AD g hl aa hm).2,MC hw];congr 3;rw[Bool.eq_iff_iff,decide_eq_true_iff];unfold Gz;rw[mem_filter];exact⟨λh=>⟨hm,h⟩,And.right⟩
  refine cY (fB (x:=.bl (decide (l∈Gz ab aa day a))) (y:=.bl (decide (l∈Gz ab aa day a))) (b1:=false) (b2:=false) (aN [.tup ab,.int aa,.int day,cG l] rfl O) ?_ (zw rfl));exact fB (x:=cG l) (y:=oD (Gz ab aa day a)) (b1:=false) (b2:=false) rfl rfl P2
 fin:=by
  have T:=kB (fi:=cn (ai 6)) (nT:=1) (cap:=[7]) (tg:=dj 0) (fe:=f2 ph (ai 0) (ai 1)) (ρ:=E8 ab aa day (iG (bU ab aa day)) ((DN ab aa).map λ(n:Nat)=>.int n) ((JF ab aa day).map λ(n:Nat)=>.int n)) (uM (bU ab aa day)) (λ(n:Nat)=>.int (n:Int)) (λ_=>.bl true)
   (by show some (iG (bU ab aa day))=_;rw[Co])
   (by rw[show(uM (bU ab aa day)).length=(bU ab aa day).length from(aX _ _).length_eq];exact vR (uL (ab:=ab) (by lia) aa day) (by decide)) λn M=>⟨[sI n,sL ((DN ab aa).map λ(n:Nat)=>.int n)],rfl,false,by
    refine fB (x:=.int n) (y:=.lst ((DN ab aa).map λ(n:Nat)=>.int n)) (b1:=false) (b2:=false) rfl rfl ?_;rw[sE,xi];obtain⟨r,hr,hh,U,_⟩:=G9 (vc.mp M);rw[xq ((xo aa).mpr (A9 hr hh U))]⟩
  refine⟨false,aN [.lst ((uM (bU ab aa day)).map λ_=>.bl true)] (aI T rfl) ?_⟩;rw[J6];refine congrArg (λb=>sO b) ?_;exact all_eq_true.mpr λ_ _=>rfl
end
theorem pe {O:FS}{gs:List FS}{ρ M:DL.Env}{r:Option DL.Env}(e:O ρ=some (.nx M))(k:yT gs M=r):yT (O::gs) ρ=r:=by
 show(match O ρ with
  |some (.nx M)=>yT gs M
  |_=>none)=r
 rw[e];exact k
theorem xp {f:FE}{ρ:DL.Env}{i:Nat}{ds:LD}(e:f ρ=some (.lst ds,true))(n:bE ds=true):aW i f ρ=some (.nx (ρ.set i (some (.lst ds,true)))):=by
 unfold aW;rw[e];show some (Res.nx (setE ρ i (.lst ds) true))=_;rw[qQ n]
theorem Cv {f:FE}{ρ:DL.Env}{i:Nat}{d:D}{b:Bool}(e:f ρ=some (d,b))(n:bB d=true):aW i f ρ=some (.nx (ρ.set i (some (d,false)))):=by
 unfold aW;rw[e];show some (Res.nx (setE ρ i d b))=_;unfold setE;rw[if_pos n]
theorem law_true (ns:LI)(_:ns.length<=63):∃b,F_law [.lst (ns.map .int)]=some (.bl true,b):=by
 obtain⟨g,c,h0⟩:=gV ns 0;obtain⟨T,o,h3⟩:=gV ns 3;obtain⟨a,u,h4⟩:=gV ns 4;obtain⟨O,p,Z⟩:=gV ns 90;obtain⟨zs,v,hz,w⟩:=Gm g h0;have q:=mod_lt (x:=T) (m:=3) (by decide);obtain⟨M,ZP,z⟩:=mT (ns:=[1,1,500]) (i:=T % 3) q.1 q.2;obtain⟨ab,erw,U,s,A⟩:=Jo ns zs hz M;have YY:=mod_lt (x:=T / 3) (m:=13) (by decide);have ZQ:=mod_lt (x:=a) (m:=3) (by decide);have YZ:=mod_lt (x:=O / 2) (m:=9) (by decide);have Rq:=mod_lt (x:=O) (m:=2) (by decide);obtain⟨aa,Qx,B⟩:=mT (ns:=[9999,T / 3 % 13*M]) (i:=a % 3 / 2) (by lia) (by simp;lia);obtain⟨day,ZR,C⟩:=mT (ns:=[9999,O / 2 % 9*M]) (i:=O % 2) (by lia) (by simp;lia);have E:bB (.tup ab)=true:=by simp[bZ λd hd=>(U d hd).flat]
 have hn:((bM (ak ab aa)).map (az 0)).Nodup:=by
  refine List.Nodup.sublist (G7 ab aa) ?_;rw[A];refine List.Nodup.sublist (take_sublist _ _) ?_;obtain⟨x,hx⟩:∃x,zs[5]? = some x:=⟨_,vU (by lia)⟩;obtain⟨y,hy⟩:∃y,zs[6]? = some y:=⟨_,vU (by lia)⟩;have e:zs.drop 5=[x,y]:=by
   refine ext_getElem? λj=>?_;rw[getElem?_drop];match j with
   |0=>exact hx
   |1=>exact hy
   |j+2=>rw[getElem?_eq_none (by lia)];rfl
  rw[e];simp[w x y hx hy]
 have f:(c8 (ak ab aa)).length<=60:=by
  unfold c8;rw[(aX _ _).length_eq];exact vR (vM _ _) (vR (cq ab aa) (by lia))
 have t:∀l:LN,bE (l.map λ(n:Nat)=>D.int (n:Int))=true:=λl=>bZ λd hd=>by obtain⟨n,_,rfl⟩:=vO hd;rfl
 let R:OB->OB->OB->OB->OB->OB->OB->DL.Env:=λF v3 G H v6 v7 v8=>[sL (ns.map .int),lT (zs.map .str),F,v3,G,H,v6,v7,v8,none,none,none,none,none];have I:Pg [sL (ns.map .int),none,none,none,none,none,none,none,none,none,none,none,none,none]=some (.nx (R none none none none none none none)):=xp (ds:=zs.map .str) (aN [.int g] (aI (aN [.lst (ns.map .int),.int ((0:Nat):Int)] rfl c) rfl) v) (eA zs);have J:Ph (R none none none none none none none)=some (.nx (R (sI M) none none none none none none)):=by
  refine Cv (d:=.int M) (b:=false) ?_ rfl;exact fB (x:=.lst (([1,1,500]:LI).map .int)) (y:=.int (T % 3)) (b1:=true) (b2:=false) (by simp[sizeLine]) (bC (.int T) (.int 3) (aN [.lst (ns.map .int),.int ((3:Nat):Int)] rfl o) rfl (by simp)) z
 have K:Pj (R (sI M) none none none none none none)=some (.nx (R (sI M) (sT ab) none none none none none)):=Cv (d:=.tup ab) (b:=false) (aN [.lst (ns.map .int),.lst (zs.map .str),.int M,.int 8] rfl erw) E;have L:Pk (R (sI M) (sT ab) none none none none none)=some (.nx (R (sI M) (sT ab) (sI aa) none none none none)):=by
  refine Cv (d:=.int aa) (b:=false) ?_ rfl;exact fB (x:=.lst (([9999,T / 3 % 13*M]:LI).map .int)) (y:=.int (a % 3 / 2)) (b1:=true) (b2:=false) (aN [.int 9999,.int (T / 3 % 13*M)] (cw rfl (cw (bC (.int (T / 3 % 13)) (.int M) (bC (.int (T / 3)) (.int 13) (bC (.int T) (.int 3) (aN [.lst (ns.map .int),.int ((3:Nat):Int)] rfl o) rfl (by simp)) rfl (by simp)) rfl (nX (by lia))) rfl)) (jf _ (by simp))) (bC (.int (a % 3)) (.int 2) (bC (.int a) (.int 3) (aN [.lst (ns.map .int),.int ((4:Nat):Int)] rfl u) rfl (by simp)) rfl (by simp)) B
 have N:Pl (R (sI M) (sT ab) (sI aa) none none none none)=some (.nx (R (sI M) (sT ab) (sI aa) (sI day) none none none)):=by
  refine Cv (d:=.int day) (b:=false) ?_ rfl;exact fB (x:=.lst (([9999,O / 2 % 9*M]:LI).map .int)) (y:=.int (O % 2)) (b1:=true) (b2:=false) (aN [.int 9999,.int (O / 2 % 9*M)] (cw rfl (cw (bC (.int (O / 2 % 9)) (.int M) (bC (.int (O / 2)) (.int 9) (bC (.int O) (.int 2) (aN [.lst (ns.map .int),.int ((90:Nat):Int)] rfl p) rfl (by simp)) rfl (by simp)) rfl (nX (by lia))) rfl)) (jf _ (by simp))) (bC (.int O) (.int 2) (aN [.lst (ns.map .int),.int ((90:Nat):Int)] rfl p) rfl (by simp)) C
 have P:Pm (R (sI M) (sT ab) (sI aa) (sI day) none none none)=some (.nx (R (sI M) (sT ab) (sI aa) (sI day) (lT (iG (bU ab aa day))) none none)):=xp (aN [.tup ab,.int aa,.int day] rfl (zv U (by lia) aa hn f day)) (DI _);have Q:Pn (R (sI M) (sT ab) (sI aa) (sI day) (lT (iG (bU ab aa day))) none none)=some (.nx (R (sI M) (sT ab) (sI aa) (sI day) (lT (iG (bU ab aa day))) (lT ((DN ab aa).map λ(n:Nat)=>.int n)) none)):=by
  refine xp ?_ (t _);refine fX (List.range ab.length) (λ(j:Nat)=>.int (0+(j:Int))) (xu ab aa) (λ(n:Nat)=>.int n) (jz (j:=ab.length) (b:=false) (aN [.tup ab] rfl (by simp)) (by lia)) (by rw[length_range];lia) λj hj=>⟨[sI (0+(j:Int)),sI aa,sT ab],rfl,?_,λ_=>⟨false,?_⟩⟩
  ·rw[show(0+(j:Int))=(j:Int) by lia];obtain⟨r,hr⟩:∃r,ab[j]? = some r:=⟨_,vU (mem_range.mp hj)⟩;have S:=U r (vL hr);have eR:f2 bD (ai 2) (ai 0) [sI (j:Int),sI aa,sT ab]=sF r:=bC (.tup ab) (.int j) rfl rfl (by simp[cD hr]);obtain⟨h,k,aH,er,dd⟩:=S;have c:bD r (.int 0)=sI (aU r):=by rw[er];simp[row,D0,aU]
   have V:bD r (.int 1)=sT (.str k::aH):=by rw[er];simp[row,BN]
   have ek:kindOf r=k:=by rw[er];rfl
   have W:bw (f2 z9 (f2 bD (f2 bD (ai 2) (ai 0)) (fI 0)) (ai 1)) [sI (j:Int),sI aa,sT ab]=some (decide (aU r<=aa)):=cY (bC (.int (aU r)) (.int aa) (bC r (.int 0) eR rfl c) rfl rfl);have X:bw (f2 ph (f2 bD (f2 bD (f2 bD (ai 2) (ai 0)) (fI 1)) (fI 0)) (fA be (af (fS "leave") (af (fS "paper") (af (fS "like") (af (fS "copy") aj)))))) [sI (j:Int),sI aa,sT ab]=some (decide (k∈bu)):=cY (bC (.str k) (.tup (bu.map .str)) (bC (.tup (.str k::aH)) (.int 0) (bC r (.int 1) eR rfl V) rfl (by simp[D0])) (by simp[sizeLine,bu]) (iu k bu));refine(fw W λ_=>X).trans ?_;unfold xu;rw[hr];show _=some (decide (aU r<=aa) && decide (kindOf r∈bu));rw[ek]
  ·show some (D.int (0+(j:Int)),false)=_;rw[show(0+(j:Int))=(j:Int) by lia]
 have Y:Po (R (sI M) (sT ab) (sI aa) (sI day) (lT (iG (bU ab aa day))) (lT ((DN ab aa).map λ(n:Nat)=>.int n)) none)=some (.nx (R (sI M) (sT ab) (sI aa) (sI day) (lT (iG (bU ab aa day))) (lT ((DN ab aa).map λ(n:Nat)=>.int n)) (lT ((JF ab aa day).map λ(n:Nat)=>.int n)))):=by
  refine xp ?_ (t _);exact fX (DN ab aa) (λ(n:Nat)=>.int n) (λ(n:Nat)=>ft (gt ab aa day) n) (λ(n:Nat)=>.int n) rfl (vR (vM _ _) (by rw[length_range];lia)) λn hb=>⟨[sI n,sT ab,sI aa,sI day],rfl,cY (aN [.tup ab,.int aa,.int day,.int n] rfl (MG U s aa hn f day ((xo aa).mp hb))),λ_=>⟨false,rfl⟩⟩
 refine⟨false,?_⟩;unfold F_law;dsimp only;rw[show yT [Pg,Ph,Pj,Pk,Pl,Pm,Pn,Po] [sL (ns.map .int),none,none,none,none,none,none,none,none,none,none,none,none,none]=some (R (sI M) (sT ab) (sI aa) (sI day) (lT (iG (bU ab aa day))) (lT ((DN ab aa).map λ(n:Nat)=>.int n)) (lT ((JF ab aa day).map λ(n:Nat)=>.int n)))from pe I (pe J (pe K (pe L (pe N (pe P (pe Q (pe Y rfl)))))))];exact if_pos ⟨_,_,_,ab,aa,day,_,DN ab aa,_,Wz ab aa,Gz ab aa day,K6 ab aa,true,true,true,rfl,Wx U s aa day hn f⟩
end Lw
namespace Lw
open PySem PySem.Spec PyProof.Rows L2 DL
noncomputable def eW (i:Nat):Stmt:=PySem.Challenge.pw_sealchain_k31_whole_a_way_leads_to_what.main.body.getD i (.Pass ⟨0,0,0,0⟩)
structure Tx (w:World)(K:Frag)(mg:Str->Option Value):Prop where
 hX:∃h,K.In h/\h.Ns mainGlobals mg
 d0:dB K "word_of" (eW 7)
 d1:dB K "part_of" (eW 8)
 d2:dB K "day_of" (eW 9)
 d3:dB K "heard" (eW 11)
 d4:dB K "rank" (eW 13)
 d5:dB K "in_order" (eW 15)
 d6:dB K "by_office" (eW 27)
 d7:dB K "roots" (eW 16)
 d8:dB K "is_known" (eW 12)
 d9:dB K "tells" (eW 19)
 d10:dB K "told_of" (eW 20)
 d11:dB K "lives" (eW 21)
 d12:dB K "has_seal" (eW 22)
 d13:dB K "is_sound" (eW 23)
 d14:dB K "lies_in" (eW 1)
 d15:dB K "is_alive" (eW 25)
 d16:dB K "by_since" (eW 26)
 d17:dB K "chief_of" (eW 28)
 d18:dB K "holder_by" (eW 29)
 d19:dB K "is_held_by" (eW 30)
 d20:dB K "is_first_death" (eW 31)
 d21:dB K "counts" (eW 32)
 d22:dB K "new_claim" (eW 33)
 d23:dB K "ended" (eW 34)
 d24:dB K "after_choice" (eW 35)
 d25:dB K "inherited" (eW 36)
 d26:dB K "after_death" (eW 37)
 d27:dB K "claims" (eW 38)
 d28:dB K "is_paper" (eW 41)
 d29:dB K "is_leave" (eW 42)
 d30:dB K "is_borne" (eW 43)
 d31:dB K "covers" (eW 4)
 d32:dB K "reach_bar" (eW 48)
 d33:dB K "office_bar" (eW 49)
 d34:dB K "office_bases" (eW 52)
 d35:dB K "ends_within" (eW 3)
 d36:dB K "is_within" (eW 2)
 d37:dB K "is_ahead" (eW 14)
 d38:dB K "leave_bar" (eW 50)
 d39:dB K "leaves_to" (eW 51)
 d40:dB K "leave_bases" (eW 53)
 d41:dB K "copy_bases" (eW 54)
 d42:dB K "bases_by" (eW 55)
 d43:dB K "may_call" (eW 44)
 d44:dB K "calls_in" (eW 45)
 d45:dB K "calls_by" (eW 46)
 d46:dB K "is_fit" (eW 57)
 d47:dB K "links" (eW 58)
 d48:dB K "bears" (eW 59)
 d49:dB K "stood" (eW 60)
 d50:dB K "standing" (eW 61)
 d51:dB K "is_begun" (eW 62)
 d52:dB K "is_linked" (eW 63)
 d53:dB K "is_chain" (eW 64)
 d54:dB K "_law_cell" (eW 66)
 d55:dB K "_law_names" (eW 67)
 d56:dB K "_law_stretch" (eW 68)
 d57:dB K "_law_deed" (eW 69)
 d58:dB K "_law_rows" (eW 70)
 d59:dB K "bases" (eW 56)
 d60:dB K "_law_ways" (eW 71)
 d61:dB K "calls" (eW 47)
 d62:dB K "_law_free" (eW 72)
 d63:dB K "law" (eW 73)
 n0:mg "all" = none
 n1:mg "any" = none
 n2:mg "dict" = none
 n3:mg "enumerate" = none
 n4:mg "int" = none
 n5:mg "len" = none
 n6:mg "list" = none
 n7:mg "max" = none
 n8:mg "min" = none
 n9:mg "range" = none
 n10:mg "set" = none
 n11:mg "sorted" = none
 n12:mg "tuple" = none
 n13:mg "zip" = none
 k0:KC K mg "PAPERS" yI
 k1:KD w K mg "PARTS" gS
 k2:KC K mg "SEALINGS" ij
 l5:Ak K "in_order"
 l12:Ak K "has_seal"
 l20:Ak K "is_first_death"
 l42:Ak K "bases_by"
section
variable {P:Program}{w:World}{K:Frag}{mg:SV}{base:Heap}(T:Tx w K mg)
include T
theorem f0:Fn P w K mg base 1 "word_of" aO:=T.d0.fq T.hX uu ["row"] 1 λnd hr hu=>
  (bg (aR (bL 0) au))
theorem f1:Fn P w K mg base 2 "part_of" aq:=T.d1.fq T.hX uw ["row","part"] 2 λnd hr hu=>
  (bg (aR (bL 0) (ay b9 au (IA T.k1 (aB (f0 T) hr) (ag 1)))))
theorem f2:Fn P w K mg base 3 "day_of" aV:=T.d2.fq T.hX yJ ["row"] 1 λnd hr hu=>
  (ao (cE (aM (cS hu) (aB (f0 T) hr) aC) eP)
   (bg (aB (f1 T) hr)))
theorem f3:Fn P w K mg base 1 "heard" cK:=T.d3.fq T.hX BD ["book","known"] 2 λnd hr hu=>
  (bg (fG ["number","row","known"] (Iu T.n3 (ag 0)) (dH (aM ou (bL 1) (ag 2))) (ag 0)))
theorem f4:Fn P w K mg base 4 "rank" fD:=T.d4.fq T.hX FU ["book","number"] 2 λnd hr hu=>
  (bg (bc (ah (bf (f2 T) hr (ah (aR (ag 0) (ag 1)) am)) (aK 1 am))))
theorem f5:Fn P w K mg base 8 "in_order" dS:=T.d5.fqL T.hX qW ["book","known","dated"] 2 λnd hr hu M=>
  (ao (oC ["number","book"] nd (cz (aB (f3 T) hr)) (dH (aM wm (bf (f2 T) hr (ah (aR (ag 1) (ag 0)) am)) eP)) (ag 0))
   (bg (Fk Fi T.n11 (ag 2) (wE (cap:=[0]) (N':=["number","book"]) (by decide +kernel) T.l5 M rfl rfl (Bt (by decide +kernel) rfl rfl rfl rfl rfl) rfl (.cons rfl rfl (Or.inl rfl) rfl (p8 (by decide +kernel) rfl) (.nil rfl)) rfl hr.in1.in1 (λ_ _ _ _=>rfl) λ_ _ _ _ hr=>have hu:=zU hr;(aB (f4 T) hr)))))
theorem f6:Fn P w K mg base 1 "by_office" gB:=T.d6.fq T.hX oE ["claim"] 1 λnd hr hu=>
  (bg (bc (ah (bL 0) (ah (bL 0) (ah (bL 0) am)))))
theorem f7:Fn P w K mg base 3 "roots" gw:=T.d7.fq T.hX BE ["book","known","known_rows"] 2 λnd hr hu=>
  (ao (oC ["number","book"] nd (cz (aB (f3 T) hr)) gJ (aR (ag 1) (ag 0)))
   (bg (kY (Mp rfl) T.n2 Mo (ah (fG ["row"] (cz (ag 2)) (dH (aM (cS hu) (aB (f0 T) hr) aC)) (bc (ah (aB (f1 T) hr) (aK 0 am)))) am))))
theorem f8:Fn P w K mg base 1 "is_known" cH:=T.d8.fq T.hX qX ["book","known","number"] 3 λnd hr hu=>
  (bg (hU (E9 ou Ba au (ag 2) (bG iM T.n5 iN (aK 0 am))) (gb (bW ou (aR (aR (ag 0) (ag 2)) au) (ag 1)))))
theorem f9:Fn P w K mg base 4 "tells" pG:=T.d9.fq T.hX BF ["row","words","person","day"] 4 λnd hr hu=>
  (bg (hU (bW lA (aB (f0 T) hr) (ag 1)) (hU (bW (cS hu) (aB (f1 T) hr) (ag 2)) (gb (bW ou (aB (f2 T) hr) (ag 3))))))
theorem f10:Fn P w K mg base 5 "told_of" gX:=T.d10.fq T.hX ux ["book","known","words","person","day"] 5 λnd hr hu=>
  (bg (fG ["number","words","person","day","book"] (cz (aB (f3 T) hr)) (dH (ce (bf (f9 T) hr (ah (aR (ag 4) (ag 0)) (aK 1 (aK 2 (aK 3 am))))))) (ag 0)))
theorem f11:Fn P w K mg base 6 "lives" mD:=T.d11.fq T.hX BG ["book","known","person","day"] 4 λnd hr hu=>
  (bg (bW (cS hu) (bG iM T.n5 iN (ah (bf (f10 T) hr (aK 0 (aK 1 (ah (bc (ah aC am)) (aK 2 (aK 3 am)))))) am)) au))
theorem Wy:Fn P w K mg base 8 "has_seal" lV:=T.d12.fqL T.hX qY ["book","known","person","day","told"] 4 λnd hr hu M=>
  (ao (aJ nd (bf (f10 T) hr (aK 0 (aK 1 (ah (bc (ah aC (ah aC am))) (aK 2 (aK 3 am)))))))
   (ao (cE (aM (cS hu) (bG iM T.n5 iN (aK 4 am)) au) gO)
   (bg (bW (cS hu) (bf (f0 T) hr (ah (aR (ag 0) (yA Ur T.n7 (ag 4) (wE (cap:=[0]) (N':=["number","book"]) (by decide +kernel) T.l12 M rfl rfl (Bt (by decide +kernel) rfl rfl rfl rfl rfl) rfl (.cons rfl rfl (Or.inl rfl) rfl (p8 (by decide +kernel) rfl) (.nil rfl)) rfl hr.in1 (λ_ _ _ _=>rfl) λ_ _ _ _ hr=>have hu:=zU hr;(aB (f4 T) hr)) hr)) am)) aC))))
theorem QN:Fn P w K mg base 9 "is_sound" dU:=T.d13.fq T.hX qZ ["book","known","number","sealer","day"] 3 λnd hr hu=>
  (ao (cE (kq (ko (fN (ce (aB (f8 T) hr))) (jD (aM qg (bf (f0 T) hr (ah (aR (ag 0) (ag 2)) am)) (xW T.k2))))) gO)
   (ao (aJ nd (bf (f1 T) hr (ah (aR (ag 0) (ag 2)) (ah aC am))))
   (ao (aJ nd (bf (f2 T) hr (ah (aR (ag 0) (ag 2)) am)))
   (bg (hU (aB (f11 T) hr) (gb (aB (Wy T) hr)))))))
theorem U3:Fn P w K mg base 1 "lies_in" j0:=T.d14.fq T.hX uy ["day","stretch"] 2 λnd hr hu=>
  (bg (hU (bW ou (bL 1) (ag 0)) (gb (EA (bW EE (bL 1) eP) (gb (bW Ba (ag 0) (bL 1)))))))
theorem Ss:Fn P w K mg base 2 "is_alive" cU:=T.d15.fq T.hX ra ["claim","day"] 2 λnd hr hu=>
  (bg (bf (U3 T) hr (aK 1 (ah (bc (ah (bL 0) (ah (bL 0) am))) am))))
theorem Su:Fn P w K mg base 1 "by_since" dw:=T.d16.fq T.hX rb ["claim"] 1 λnd hr hu=>
  (bg (bc (ah (bL 0) (ah (bL 0) am))))
theorem W1:Fn P w K mg base 5 "chief_of" lW:=T.d17.fq T.hX rd ["alive","rule"] 2 λnd hr hu=>
  (ao (cE (aM (cS hu) (ag 1) aC) (aR (yA Ur T.n7 (ag 0) (Bv (Su T) (hr.in1.mono (by decide)) rfl) hr) au))
   (bg (aR (yA Sb T.n8 (ag 0) (Bv (Su T) (hr.in1.mono (by decide)) rfl) hr) au)))
theorem U4:Fn P w K mg base 6 "holder_by" dW:=T.d18.fq T.hX oF ["claimed","root","day","alive","people","person","oldest"] 3 λnd hr hu=>
  (ao (oC ["claim","day","root"] nd (cz (ag 0)) (dH (kq (kn (aM (cS hu) (bL 0) (aB (f1 T) hr)) (iK (ce (aB (Ss T) hr)))))) (ag 0))
   (ao (aJ nd (qt rfl T.n11 T.n10 (fG ["claim"] (cz (ag 3)) gJ (bL 0))))
   (ao (cE (aM (cS hu) (bG iM T.n5 iN (aK 4 am)) au) (bc (ah aC am)))
   (ao (cE (kq (kn (aM zS (bG iM T.n5 iN (aK 4 am)) au) (iK (aM (cS hu) (aB (f1 T) hr) aC)))) (bc (ah aC (aK 4 am))))
   (ao (aJ nd (bf (W1 T) hr (aK 3 (ah (aB (f1 T) hr) am))))
   (ao (aJ nd (yA Sb T.n8 (fG ["claim","person"] (cz (ag 3)) (dH (aM (cS hu) (bL 0) (ag 1))) (ag 0)) (Bv (Su T) (hr.in1.mono (by decide)) rfl) hr))
   (bg (bc (ah aC (aK 5 (ah (bL 6) am)))))))))))
theorem Sv:Fn P w K mg base 7 "is_held_by" cP:=T.d19.fq T.hX mE ["claimed","root","person","day"] 4 λnd hr hu=>
  (bg (bW (cS hu) (js (aB (U4 T) hr) kW (kX au)) (bc (ah aC (aK 2 am)))))
theorem W2:Fn P w K mg base 8 "is_first_death" gh:=T.d20.fqL T.hX j4 ["book","known","number","row","deaths"] 3 λnd hr hu M=>
  (ao (aJ nd (aR (ag 0) (ag 2)))
   (ao (aJ nd (bf (f10 T) hr (aK 0 (aK 1 (ah (bc (ah aC am)) (ah (aB (f1 T) hr) (ah (aB (f2 T) hr) am)))))))
   (bg (bW (cS hu) (yA Sb T.n8 (ag 4) (wE (cap:=[0]) (N':=["each","book"]) (by decide +kernel) T.l20 M rfl rfl (Bt (by decide +kernel) rfl rfl rfl rfl rfl) rfl (.cons rfl rfl (Or.inl rfl) rfl (p8 (by decide +kernel) rfl) (.nil rfl)) rfl hr.in1 (λ_ _ _ _=>rfl) λ_ _ _ _ hr=>have hu:=zU hr;(aB (f4 T) hr)) hr) (ag 2)))))
theorem W3:Fn P w K mg base 10 "counts" mF:=T.d21.fq T.hX yK ["book","known","so_far","number","row","root"] 4 λnd hr hu=>
  (ao (aJ nd (aR (ag 0) (ag 3)))
   (ao (cE (aM (cS hu) (aB (f0 T) hr) aC) (aB (W2 T) hr))
   (ao (cE (aM qg (aB (f0 T) hr) (bc (ah aC (ah aC (ah aC am))))) gO)
   (ao (aJ nd (Ft (Dn hu) (aB (f7 T) hr) (aB (f1 T) hr) ⟨rfl,rfl,rfl,rfl⟩))
   (ao (cE (aM EE (ag 5) eP) gO)
   (ao (cE (aM (cS hu) (aB (f0 T) hr) aC) gO)
   (bg (hU (aB (QN T) hr) (gb (bf (Sv T) hr (aK 2 (aK 5 (ah (aB (f1 T) hr) (ah (aB (f2 T) hr) am))))))))))))))
theorem U5:Fn P w K mg base 3 "new_claim" gE:=T.d22.fq T.hX oG ["row","since","number"] 3 λnd hr hu=>
  (bg (bc (ah (aB (f1 T) hr) (ah (aB (f1 T) hr) (aK 1 (ah eP (aK 2 am)))))))
theorem U6:Fn P w K mg base 3 "ended" pH:=T.d23.fq T.hX BH ["so_far","offices","person","day","left","claim"] 4 λnd hr hu=>
  (ao (aJ nd (bK am))
   (ao (yD (cz (ag 0)) (DZ 5 nd) hJ (bJ (fU (kq (ko (aM qg (bL 5) (ag 1)) (ko (aM (CQ hu) (bL 5) (ag 2)) (jD (fN (kq (ko (ce (aB (Ss T) hr)) (jD (aM zS (bL 5) (ag 3)))))))))) (bJ (iX (i:=4) (ag 5))) (bJ (fU (aM Ba (bL 5) (ag 3)) (bJ (iX (i:=4) (bc (ah (bL 5) (aK 2 (ah (bL 5) (aK 3 (ah (bL 5) am)))))))) fO)))))
   (bJ (mw 4))))
theorem W4:Fn P w K mg base 4 "after_choice" im:=T.d24.fq T.hX kE ["so_far","row","number","since","left"] 3 λnd hr hu=>
  (ao (aJ nd (aB (f1 T) hr))
   (ao (aJ nd (bf (U6 T) hr (aK 0 (ah (bK (ah (aB (f1 T) hr) am)) (ah (aB (f1 T) hr) (aK 3 am))))))
   (bg (ay b9 (ag 4) (bK (ah (aB (U5 T) hr) am))))))
theorem W5:Fn P w K mg base 7 "inherited" kF:=T.d25.fq T.hX oH ["book","known","so_far","heirs","number","person","day","told","office","heir"] 5 λnd hr hu=>
  (ao (aJ nd (bf (f1 T) hr (ah (aR (ag 0) (ag 4)) (ah aC am))))
   (ao (aJ nd (bf (f2 T) hr (ah (aR (ag 0) (ag 4)) am)))
   (ao (aJ nd (bK am))
   (ao (OP [5,6] (yD (cz (qt rfl T.n11 T.n10 (fG ["claim","person","day"] (cz (ag 2)) (dH (kq (kn (aM (cS hu) (bL 0) (ag 1)) (iK (ce (aB (Ss T) hr)))))) (bL 0)))) (DZ 8 nd) hJ (ao (aJ nd (F4 (Dn hu) (ag 3) (aK 8 (aK 5 am)) ⟨rfl,rfl,rfl,rfl⟩))
   (bJ (fU (kq (kn (aM wm (ag 9) eP) (iK (ce (aB (f11 T) hr))))) (bJ (iX (i:=7) (bc (aK 8 (aK 9 (aK 6 (ah eP (aK 4 am)))))))) fO)))))
   (bJ (mw 7))))))
theorem W6:Fn P w K mg base 8 "after_death" jb:=T.d26.fq T.hX lG ["book","known","so_far","heirs","number","offices","left"] 5 λnd hr hu=>
  (ao (oC ["claim"] nd (cz (ag 2)) gJ (bL 0))
   (ao (aJ nd (bf (U6 T) hr (aK 2 (aK 5 (ah (bf (f1 T) hr (ah (aR (ag 0) (ag 4)) (ah aC am))) (ah (bf (f2 T) hr (ah (aR (ag 0) (ag 4)) am)) am))))))
   (bg (ay b9 (ag 6) (aB (W5 T) hr)))))
theorem Sw:Fn P w K mg base 11 "claims" kG:=T.d27.fq T.hX yL ["book","known","so_far","heirs","number","row"] 2 λnd hr hu=>
  (ao (aJ nd (bK am))
   (ao (IJ (i:=3) nd)
   (ao (yD (cz (aB (f5 T) hr)) (DZ 4 nd) hJ (ao (aJ nd (aR (ag 0) (ag 4)))
   (ao (fU (fN (ce (aB (W3 T) hr))) (bJ Ip) fO)
   (bJ (fU (aM (cS hu) (aB (f0 T) hr) aC) (bJ (aJ nd (ay b9 (ag 2) (bK (ah (bf (U5 T) hr (aK 5 (ah (aB (f2 T) hr) (aK 4 am)))) am))))) (bJ (fU (aM (cS hu) (aB (f0 T) hr) aC) (bJ (aJ nd (aB (W4 T) hr))) (bJ (fU (aM (cS hu) (aB (f0 T) hr) aC) (bJ (IL (i:=3) (Dn hu) (aB (f1 T) hr) (ah (aB (f1 T) hr) (ah (aB (f1 T) hr) am)))) (bJ (aJ nd (aB (W6 T) hr))))))))))))
   (bg (Fk Fi T.n11 (ag 2) (Bv (f6 T) (hr.in1.in1.mono (by decide)) rfl))))))
theorem U7:Fn P w K mg base 2 "is_paper" fE:=T.d28.fq T.hX rf ["book","known","number"] 3 λnd hr hu=>
  (bg (hU (aB (f8 T) hr) (gb (bW lA (bf (f0 T) hr (ah (aR (ag 0) (ag 2)) am)) (xW T.k0)))))
theorem U8:Fn P w K mg base 2 "is_leave" gk:=T.d29.fq T.hX rg ["book","known","number"] 3 λnd hr hu=>
  (bg (hU (aB (f8 T) hr) (gb (bW (cS hu) (bf (f0 T) hr (ah (aR (ag 0) (ag 2)) am)) aC))))
theorem Sx:Fn P w K mg base 3 "is_borne" dX:=T.d30.fq T.hX rh ["book","known","number"] 3 λnd hr hu=>
  (bg (EA (aB (U8 T) hr) (gb (aB (U7 T) hr))))
theorem U9:Fn P w K mg base 1 "covers" io:=T.d31.fq T.hX ri ["matters","some"] 2 λnd hr hu=>
  (bg (bW (cS hu) (ay O9 (ag 0) (ag 1)) (ag 1)))
theorem UA:Fn P w K mg base 3 "reach_bar" iQ:=T.d32.fq T.hX oJ ["row","above"] 2 λnd hr hu=>
  (ao (cE (fN (ce (bf (U9 T) hr (ah (aB (f1 T) hr) (ah (aB (f1 T) hr) am))))) aC)
   (ao (cE (kq (kn (aM (cS hu) (aB (f0 T) hr) aC) (iK (aM RS (aB (f1 T) hr) (aB (f1 T) hr))))) aC)
   (bg eP)))
theorem W7:Fn P w K mg base 8 "office_bar" gU:=T.d33.fq T.hX mG ["claimed","row","root"] 3 λnd hr hu=>
  (ao (cE (fN (ce (bf (Sv T) hr (aK 0 (aK 2 (ah (aB (f1 T) hr) (ah (aB (f2 T) hr) am))))))) aC)
   (bg (aB (UA T) hr)))
theorem W8:Fn P w K mg base 9 "office_bases" iq:=T.d34.fq T.hX kH ["book","known","claimed","number","row","bearing"] 4 λnd hr hu=>
  (ao (aJ nd (aR (ag 0) (ag 3)))
   (ao (oC ["root","claimed","row"] nd (B4 (aB (f7 T) hr)) (dH (aM EE (aB (W7 T) hr) eP)) (ag 0))
   (bg (fG ["root","claimed","row"] (cz (ag 5)) gJ (bc (ah aC (ah (aB (f1 T) hr) (ah (aR (bf (U4 T) hr (aK 1 (aK 0 (ah (aB (f2 T) hr) am)))) au) am))))))))
theorem W9:Fn P w K mg base 1 "ends_within" jc:=T.d35.fq T.hX lH ["stop","bound"] 2 λnd hr hu=>
  (ao (cE (aM EE (ag 1) eP) gO)
   (bg (hU (bW wm (ag 0) eP) (gb (bW ou (ag 0) (ag 1))))))
theorem WA:Fn P w K mg base 2 "is_within" iR:=T.d36.fq T.hX oK ["one","other"] 2 λnd hr hu=>
  (bg (hU (bW ou (bL 1) (bL 0)) (gb (bf (W9 T) hr (ah (bL 0) (ah (bL 1) am))))))
theorem UB:Fn P w K mg base 5 "is_ahead" gm:=T.d37.fq T.hX rj ["book","one","other"] 3 λnd hr hu=>
  (bg (bW (OW hu) (aB (f4 T) hr) (aB (f4 T) hr)))
theorem WB:Fn P w K mg base 6 "leave_bar" iS:=T.d38.fq T.hX oM ["book","number","leave","row","stretch"] 3 λnd hr hu=>
  (ao (aJ nd (aR (ag 0) (ag 1)))
   (ao (aJ nd (bf (f1 T) hr (ah (aR (ag 0) (ag 2)) (ah aC am))))
   (ao (cE (fN (ce (aB (UB T) hr))) aC)
   (ao (cE (kq (ko (fN (ce (bf (U3 T) hr (ah (aB (f2 T) hr) (aK 4 am))))) (jD (fN (ce (bf (WA T) hr (ah (aB (f1 T) hr) (aK 4 am)))))))) aC)
   (bg (bf (UA T) hr (aK 3 (ah (aR (ag 0) (ag 2)) am))))))))
theorem WC:Fn P w K mg base 3 "leaves_to" kI:=T.d39.fq T.hX oN ["book","known","person","leaves"] 3 λnd hr hu=>
  (ao (oC ["number","book","known"] nd (cz (aB (f3 T) hr)) (dH (ce (aB (U8 T) hr))) (ag 0))
   (bg (fG ["number","person","book"] (cz (ag 3)) (dH (aM (cS hu) (bf (f1 T) hr (ah (aR (ag 2) (ag 0)) (ah aC am))) (ag 1))) (ag 0))))
theorem WD:Fn P w K mg base 7 "leave_bases" jd:=T.d40.fq T.hX lI ["book","known","number","leaves"] 3 λnd hr hu=>
  (ao (aJ nd (bf (WC T) hr (aK 0 (aK 1 (ah (bf (f1 T) hr (ah (aR (ag 0) (ag 2)) (ah aC am))) am)))))
   (bg (fG ["leave","book","number"] (cz (ag 3)) (dH (aM EE (aB (WB T) hr) eP)) (bc (ah aC (aK 0 am))))))
theorem WE:Fn P w K mg base 6 "copy_bases" jM:=T.d41.fq T.hX mH ["book","known","number","of"] 3 λnd hr hu=>
  (ao (aJ nd (bf (f1 T) hr (ah (aR (ag 0) (ag 2)) (ah aC am))))
   (ao (cE (kq (kn (ce (aB (U7 T) hr)) (iK (ce (aB (UB T) hr))))) (bK (ah (bc (ah aC (aK 3 am))) am)))
   (bg (bK am))))
theorem UC:Fn P w K mg base 10 "bases_by" dY:=T.d42.fqL T.hX rm ["book","known","claimed","number","found"] 4 λnd hr hu M=>
  (ao (cE (fN (ce (aB (Sx T) hr))) (bK am))
   (ao (cE (aM (cS hu) (bf (f0 T) hr (ah (aR (ag 0) (ag 3)) am)) aC) (aB (WE T) hr))
   (ao (aJ nd (ay b9 (aB (W8 T) hr) (aB (WD T) hr)))
   (bg (Fk (F8 hu) T.n11 (ag 4) (wE (cap:=[]) (N':=["base"]) (by decide +kernel) T.l42 M rfl rfl (Bt (by decide +kernel) rfl rfl rfl rfl rfl) rfl (.nil rfl) rfl hr.in1.in1 (λ_ _ _ _=>rfl) λ_ _ _ _ hr=>have hu:=zU hr;(bc (ah (aR (ag 0) (AS Bb au)) (aK 0 am)))))))))
theorem WG:Fn P w K mg base 8 "may_call" lX:=T.d43.fq T.hX ro ["book","known","claimed","call","number","row","caller","over"] 5 λnd hr hu=>
  (ao (aJ nd (aR (ag 0) (ag 4)))
   (ao (aJ nd (bf (f1 T) hr (ah (aR (ag 0) (ag 3)) (ah aC am))))
   (ao (cE (aM (cS hu) (ag 6) (aB (f1 T) hr)) gO)
   (ao (cE (aM (cS hu) (aB (f0 T) hr) aC) gO)
   (ao (oC ["root","row"] nd (B4 (aB (f7 T) hr)) (dH (ce (bf (U9 T) hr (ah (aB (f1 T) hr) (ah (aB (f1 T) hr) am))))) (ag 0))
   (bg (bG Kn T.n1 Ko (ah (fG ["root","claimed","caller","book","call"] (cz (ag 7)) gJ (bf (Sv T) hr (aK 1 (aK 0 (aK 2 (ah (bf (f2 T) hr (ah (aR (ag 3) (ag 4)) am)) am)))))) am))))))))
theorem WH:Fn P w K mg base 10 "calls_in" jN:=T.d44.fq T.hX rq ["book","known","claimed","call","number","day","row"] 6 λnd hr hu=>
  (ao (aJ nd (aR (ag 0) (ag 3)))
   (ao (cE (kq (ko (aM (CQ hu) (aB (f0 T) hr) aC) (ko (aM (CQ hu) (aB (f1 T) hr) (ag 4)) (jD (aM zS (aB (f2 T) hr) (ag 5)))))) gO)
   (bg (hU (aB (QN T) hr) (gb (aB (WG T) hr))))))
theorem UD:Fn P w K mg base 11 "calls_by" jO:=T.d45.fq T.hX rz ["book","known","claimed","number","day"] 5 λnd hr hu=>
  (ao (cE (fN (ce (aB (Sx T) hr))) (bK am))
   (bg (fG ["call","book","known","claimed","number","day"] (cz (aB (f3 T) hr)) (dH (ce (aB (WH T) hr))) (ag 0))))
theorem WI:Fn P w K mg base 12 "is_fit" mI:=T.d46.fq T.hX yM ["book","known","claimed","number","day"] 5 λnd hr hu=>
  (ao (cE (kq (ko (fN (ce (aB (QN T) hr))) (jD (aM zS (bf (f2 T) hr (ah (aR (ag 0) (ag 3)) am)) (ag 4))))) gO)
   (bg (bW (cS hu) (bG iM T.n5 iN (ah (aB (UD T) hr) am)) au)))
theorem UE:Fn P w K mg base 13 "links" lm:=T.d47.fq T.hX BI ["book","known","day","claimed","found","number"] 3 λnd hr hu=>
  (ao (Ib (i:=3) nd (aB (Sw T) hr))
   (ao (B3 (i:=4) nd)
   (ao (yD (cz (aB (f5 T) hr)) (DZ 5 nd) hJ (bJ (fU (kq (kn (ce (aB (Sx T) hr)) (iK (ce (aB (WI T) hr))))) (bJ (FH (i:=4) (Dn hu) (aB (UC T) hr) (ag 5))) fO)))
   (bJ (mw 4)))))
theorem WJ:Fn P w K mg base 1 "bears" mJ:=T.d48.fq T.hX BJ ["base","among"] 2 λnd hr hu=>
  (bg (EA (bW (cS hu) (bL 0) aC) (gb (FI (Dn hu) (bL 0) (ag 1)))))
theorem WK:Fn P w K mg base 2 "stood" wM:=T.d49.fq T.hX BK ["found","stands","number","resting"] 1 λnd hr hu=>
  (ao (B3 (i:=1) nd)
   (ao (yD (FF (ag 0)) (vi rfl (gz (DZ 2 nd) (gz (DZ 3 nd) p6))) OM (bJ (fU (ce (bG Kn T.n1 Ko (ah (fG ["base","stands"] (cz (ag 3)) gJ (aB (WJ T) hr)) am))) (bJ (IK (i:=1) (Dn hu) gO (ag 2))) fO)))
   (bJ (mw 1))))
theorem WL:Fn P w K mg base 14 "standing" lY:=T.d50.fq T.hX r6 ["book","known","day"] 3 λnd hr hu=>
  (bg (bG (Dv rfl) T.n11 yu (ah (bf (WK T) hr (ah (aB (UE T) hr) am)) am)))
theorem WM:Fn P w K mg base 1 "is_begun" jP:=T.d51.fq T.hX rA ["resting","first"] 2 λnd hr hu=>
  (bg (bW lA (ag 1) (fG ["base"] (cz (ag 0)) (dH (aM (cS hu) (bL 0) aC)) (bL 0))))
theorem WN:Fn P w K mg base 1 "is_linked" iT:=T.d52.fq T.hX oP ["resting","ahead"] 2 λnd hr hu=>
  (bg (bW lA (ag 1) (fG ["base"] (cz (ag 0)) (dH (aM (CQ hu) (bL 0) aC)) (bL 0))))
theorem WO:Fn P w K mg base 14 "is_chain" jQ:=T.d53.fq T.hX rB ["book","known","day","numbers","found"] 4 λnd hr hu=>
  (ao (aJ nd (aB (UE T) hr))
   (ao (cE (kq (ko (aM Ba (bG iM T.n5 iN (aK 3 am)) au) (jD (fN (ce (bG Bf T.n0 Bd (ah (fG ["number","found"] (cz (js (ag 3) (kX au) kW)) gJ (FI (Dn hu) (ag 0) (ag 1))) am))))))) gO)
   (ao (cE (fN (ce (bf (WM T) hr (ah (Fu (Dn hu) (ag 4) (bL 3) (by intro _ _;rfl)) (ah (bL 3) am))))) gO)
   (bg (bG Bf T.n0 Bd (ah (fG ["ahead","number","found"] (IW T.n13 (js (ag 3) (kX au) kW) (js (ag 3) (kX au) kW)) gJ (bf (WN T) hr (ah (Fu (Dn hu) (ag 2) (ag 1) (by intro _ _;rfl)) (aK 0 am)))) am))))))
theorem GI:Fn P w K mg base 1 "_law_cell" df:=T.d54.fq T.hX yP ["_law_script","_law_k","_law_cell_here"] 2 λnd hr hu=>
  (ao (aJ nd au)
   (ao (fU (aM zS (bG iM T.n5 iN (aK 0 am)) au) (bJ (aJ nd (aR (ag 0) (ay bP (ag 1) (bG iM T.n5 iN (aK 0 am)))))) fO)
   (ao (aJ nd (ay bP (ay dc (ay b9 (ay b9 (ay bP (ag 2) au) (ay dc au (ag 1))) au) au) au))
   (bg (ay bP (ay dc (ag 2) (ay b9 (ay b9 (ay bP (ag 2) au) (ag 1)) au)) au)))))
theorem WP:Fn P w K mg base 1 "_law_names" nO:=T.d55.fq T.hX uz ["_law_cell_here","_law_letters","_law_base","_law_at","_law_names_here","_law_k","_law_name"] 1 λnd hr hu=>
  (ao (aJ nd aC)
   (ao (oC ["_law_k","_law_letters","_law_cell_here"] nd (ya T.n9 (ay b9 au (ay bP (ag 0) au))) gJ (aR (ag 1) (ay bP (ay bR (ag 2) (ay b9 au (ay dc au (ag 0)))) au)))
   (ao (aJ nd (ay bP (ay bR (ag 0) au) (bG iM T.n5 iN (aK 2 am))))
   (ao (aJ nd (bK am))
   (ao (F9 (mz T.n9 au) (DZ 5 nd) hJ (ao (aJ nd (kY Me T.n6 LR (aK 2 am)))
   (ao (ES (i:=6) (aR (ag 1) (ay bP (ay b9 (ay bR (ag 0) au) (ay dc au (ag 5))) au)) (ag 3))
   (bJ (iX (i:=4) (LZ PySem.F.slot_str_join PySem.F.type_str_join Mb EN aC (ag 6)))))))
   (ao (fU (aM (cS hu) (ay bP (ay bR (ag 0) au) au) au) (bJ (ES (i:=4) (bL 4) au)) fO)
   (bJ (mw 4))))))))
theorem UF:Fn P w K mg base 1 "_law_stretch" gF:=T.d56.fq T.hX oQ ["_law_cell_here","_law_day","_law_measure","_law_some"] 3 λnd hr hu=>
  (ao (aJ nd (bK (ah (bc (cm (ah eP am))) (ah (bc (aK 1 (ah eP am))) (ah (bc (aK 1 (ah (ay b9 (ag 1) (ay dc au (ag 2))) am))) (ah (bc (cm (ah (ay b9 (ag 1) (ay dc au (ag 2))) am))) (ah (bc (cm (ah (ay dc au (ag 2)) am))) am)))))))
   (ao (aJ nd (ay b9 (ag 3) (bK (ah (bc (ah (ay b9 (ag 1) (ag 2)) (ah (ay b9 (ag 1) (ay dc au (ag 2))) am))) (ah (bc (ah (ay bR (ag 1) au) (ah (ay b9 (ag 1) (ay dc au (ag 2))) am))) (ah (bc (cm (ah eP am))) am))))))
   (bg (aR (ag 3) (ay bP (ag 0) au)))))
theorem WQ:Fn P w K mg base 2 "_law_deed" rC:=T.d57.fq T.hX yQ ["_law_many","_law_cell_here","_law_other","_law_names_here","_law_day","_law_had","_law_measure","_law_kinds","_law_word","_law_by","_law_person","_law_of","_law_matters","_law_further","_law_start"] 7 λnd hr hu=>
  (ao (aJ nd (ay b9 (ay b9 (F0 (bK (ah aC am)) au) (F0 (bK (ah aC am)) au)) (bK (ah aC (ah aC (ah aC (ah aC (ah aC am))))))))
   (ao (aJ nd (ay b9 (ag 7) (bK (ah aC (ah aC (ah aC (ah aC (ah aC (ah aC am)))))))))
   (ao (aJ nd (aR (ag 7) (ay bP (ag 1) au)))
   (ao (aJ nd (aR (ag 5) (ay EB (AS Bb au) (ay bP (ay bR (ag 1) au) (bG OG T.n8 OD (cm (ah (bG iM T.n5 iN (aK 5 am)) am)))))))
   (ao (fU (aM (cS hu) (ay bP (ay bR (ag 1) au) au) au) (bJ (aJ nd (aR (ag 3) (ay bP (ay bR (ag 1) au) au)))) fO)
   (ao (aJ nd (aR (ag 3) (ay bP (ay bR (ag 1) au) au)))
   (ao (aJ nd (bG OF T.n7 OC (cm (ah (ay EB (ay EB (ag 0) au) (ay bP (ag 2) au)) am))))
   (ao (fU (aM (cS hu) (ay bP (ay bR (ag 2) au) au) au) (bJ (aJ nd (ay bP (ay bR (ag 2) au) au))) fO)
   (ao (fU (aM (cS hu) (ag 8) aC) (ao (aJ nd (by refine aR (hs:=?_) ?_ ?_;refine bK ?_;refine cm ?_;refine cm ?_;refine cm ?_;refine cm ?_;refine cm ?_;refine cm ?_;refine cm ?_;refine cm ?_;exact am;exact(ay bP (ay bR (ag 1) au) au);intro _ _;rfl))
   (ao (aJ nd (ay bP (ay bR (ag 2) au) (aR (bK (cm (cm (cm (cm am))))) (ay bP (ay bR (ag 2) au) au))))
   (bg (bc (aK 8 (aK 4 (aK 9 (aK 10 (aK 12 (ah (bf (UF T) hr (ah (ay bR (ag 2) au) (aK 4 (aK 6 am)))) (aK 13 am))))))))))) fO)
   (ao (fU (kq (ko (aM (cS hu) (ag 8) aC) (jD (aM (cS hu) (ag 8) aC)))) (ao (aJ nd (by refine aR (hs:=?_) ?_ ?_;refine bK ?_;refine cm ?_;refine cm ?_;refine cm ?_;refine cm ?_;refine cm ?_;refine cm ?_;refine cm ?_;refine cm ?_;exact am;exact(ay bP (ay bR (ag 1) au) au);intro _ _;rfl))
   (ao (aJ nd (bc (aK 8 (aK 4 (aK 9 (aK 12 (ah (bf (UF T) hr (ah (ay bR (ag 2) au) (aK 4 (aK 6 am)))) (ah (aR (bK (ah eP (aK 10 am))) (ay bP (ay bR (ag 2) au) au)) am))))))))
   (ao (cE (aM (cS hu) (ag 8) aC) (ay Fq (ag 14) (bc (aK 11 (ah (bc (ah (bc (cm (aK 10 am))) am)) am)))))
   (bg (ay Fq (ag 14) (bc (ah (bc (aK 10 am)) am))))))) fO)
   (ao (cE (aM lA (ag 8) (bc (ah aC (ah aC am)))) (bc (aK 8 (aK 4 (aK 9 (aK 11 am))))))
   (ao (cE (aM (cS hu) (ag 8) aC) (bc (aK 8 (aK 4 (ah (aR (ag 3) (ay b9 au (ay bP (ag 2) au))) (aK 10 am))))))
   (ao (cE (aM (cS hu) (ag 8) aC) (bc (aK 8 (aK 4 (aK 9 (ah (aR (ag 3) (ay b9 au (ay bP (ag 2) au))) (aK 10 (ah (ay b9 (ag 4) (ay dc (ay bP (ay bR (ag 2) au) au) (ag 6))) am))))))))
   (ao (cE (aM (cS hu) (ag 8) aC) (bc (aK 8 (aK 4 (aK 9 (ah (aR (ag 3) (ay b9 au (ay bP (ag 2) au))) (aK 10 am)))))))
   (bg (bc (aK 8 (aK 4 (aK 9 am)))))))))))))))))))
theorem WR:Fn P w K mg base 3 "_law_rows" rE:=T.d58.fq T.hX yR ["_law_script","_law_names_here","_law_measure","_law_most","_law_head","_law_rows_here","_law_had","_law_k","_law_rule","_law_matters","_law_late","_law_further","_law_cell_here","_law_day","_law_deed_here"] 4 λnd hr hu=>
  (ao (aJ nd (bf (GI T) hr (aK 0 (cm am))))
   (ao (aJ nd (bK am))
   (ao (aJ nd (bK am))
   (ao (F9 (mz T.n9 (ay b9 au (ay bP (ag 4) au))) (DZ 7 nd) hJ (ao (aJ nd (aR (bK (ah aC (ah aC (ah aC am)))) (ay bP (ay bR (ag 4) (ay b9 au (ay dc au (ag 7)))) au)))
   (ao (aJ nd (aR (bK (cm (cm (cm (cm am))))) (ay bP (ay bR (ag 4) (ay b9 au (ay dc au (ag 7)))) au)))
   (ao (aJ nd (ay dc (ay dc (kY OQ T.n4 OE (ah (bW (cS hu) (ay bP (ay bR (ag 4) (ay b9 au (ag 7))) au) au) am)) au) (ag 2)))
   (ao (aJ nd (ay bP (ay bR (ag 4) (ay b9 au (ay dc au (ag 7)))) (aR (bK (cm (cm (cm am)))) (ay bP (ay bR (ag 4) (ay b9 au (ag 7))) au))))
   (ao (iX (i:=5) (bc (aK 10 (ah (bc (ah aC (ah (aR (ag 1) (ay b9 au (ag 7))) (aK 9 (aK 11 (aK 8 am)))))) am))))
   (ao (iX (i:=5) (bc (cm (ah (bc (ah aC (cm (ah (aR (ag 1) (ay b9 au (ag 7))) (ah (aR (ag 1) (ag 7)) am))))) am))))
   (bJ (iX (i:=6) (aR (ag 1) (ag 7)))))))))))
   (ao (F9 (mz T.n9 (ay b9 au (ay bP (bf (GI T) hr (aK 0 (cm am))) (ag 3)))) (DZ 7 nd) hJ (ao (aJ nd (bf (GI T) hr (aK 0 (ah (ay b9 au (ag 7)) am))))
   (ao (aJ nd (ay dc (ay b9 (ay bR (ag 7) au) (ay bP (ay bR (ag 12) au) au)) (ag 2)))
   (ao (aJ nd (bf (WQ T) hr (ah (bG iM T.n5 iN (aK 5 am)) (ah (bf (GI T) hr (aK 0 (ah (ay b9 au (ag 7)) am))) (ah (bf (GI T) hr (aK 0 (ah (ay b9 au (ag 7)) am))) (aK 1 (aK 13 (aK 6 (aK 2 am)))))))))
   (ao (fU (aM lA (bL 14) (bc (ah aC (ah aC am)))) (bJ (iX (i:=6) (bL 14))) fO)
   (ao (fU (aM (cS hu) (bL 14) aC) (bJ (iX (i:=6) (bL 14))) fO)
   (bJ (iX (i:=5) (bc (ah (ay b9 (ag 13) (ay dc (by refine aR (hs:=?_) ?_ ?_;refine bK ?_;refine cm ?_;refine cm ?_;refine cm ?_;refine cm ?_;refine cm ?_;refine cm ?_;exact am;exact(ay bP (ay bR (ag 12) au) au);intro _ _;rfl) (ag 2))) (aK 14 am)))))))))))
   (bg (kY Iq T.n12 Ih (aK 5 am))))))))
theorem WS:Fn P w K mg base 12 "bases" pJ:=T.d59.fq T.hX BL ["book","known","number"] 3 λnd hr hu=>
  (bg (bf (UC T) hr (aK 0 (aK 1 (ah (aB (Sw T) hr) (aK 2 am))))))
end
section
variable {P:Program}{w:World}{K:Frag}{mg:SV}{base:Heap}(T:Tx w K mg)
noncomputable abbrev UG:List PySem.Str:=["_law_rows_here","_law_known","_law_number","_law_made","_law_found","_law_base"]
theorem GJ {W:List LI}{n:Nat}{ρ:DL.Env}(h:ρ[2]? = some (some (.int n,false)))(hl:∀l∈W,l.length<=1000):fg (dj 0) fM (DL.f2 ca (ai 0) (fA bI (fV 1 aj))) (dn 1 [2] ρ) (W.map cG)=some ((W.map (· ++ [(n:Int)])).map cG):=by
 have hc:dn 1 [2] ρ=[none,some (.int n,false)]:=by simp[dn,h]
 rw[hc];induction W with
 |nil=>rfl
 |cons l W M=>
  have h1:=hl l mX;have O:DL.f2 ca (ai 0) (fA bI (fV 1 aj)) [some (cG l,false),some (.int n,false)]=some (cG (l++[(n:Int)]),true):=by
   have h2:(l.map D.int).length+1<=sizeLine:=N7 (by rw[vI];lia);have h3:(1:Nat)<=sizeLine:=N7 (by decide);have U:fA bI (fV 1 aj) [some (cG l,false),some (.int n,false)]=some (.lst [.int n],true):=by
    show(if [D.int n].length<=sizeLine then some (D.lst [.int n],true)else none)=_;exact if_pos h3
   show((some (cG l,false):OB).bind λx=>(fA bI (fV 1 aj) [some (cG l,false),some (.int n,false)]).bind λy=>ca x.1 y.1)=_;rw[U];show(if(l.map D.int).length+1<=sizeLine then some (D.lst (l.map D.int++[.int n]),true)else none)=_;rw[if_pos h2,cG,uW];rfl
  rw[uY,uY,uY,lM];show((DL.f2 ca (ai 0) (fA bI (fV 1 aj)) [some (cG l,false),some (.int n,false)]).bind λx=>(fg _ _ _ _ (W.map cG)).map (x.1 :: ·))=_;rw[O,M λa h=>hl a (mZ _ h)];rfl
def UH (K:Frag)(aa:Int)(W:Int->List LI)(bs:List (D×Bool×Int))(n:Nat)(m:Addr)(U:V)(B H N2:Hp)(i a:Nat)(σ:L2.St)(M:Hp):Prop:=∃(N:Hp)(p:Addr)(O:LV)(b:Option V),a=bs.length - i/\i<=bs.length/\σ=[some U,some (.int aa),some (.int n),some (.ref m),some (.ref p),b]/\p4 m B N H M/\aT N2 N/\(N p=none/\H p=none/\p≠m)/\M p=some (.lst O)/\IsL K N O (((bs.take i).flatMap λx=>tp W n x.2).map cG)/\Made K W N M m
include T
theorem Cw {ab:LD}{aa:Int}{W:Int->List LI}{rk:Int->Nat}(HW:∀n:Nat,n<100->rk n<100->WOk ab aa W rk n):∀k,k<=100->FnS P w K mg base (13+k) "_law_ways" (Wq K ab aa W rk k)
 |0=>λ_=>T.d60.fqS (k:=12) T.hX UG 4 (λvs H Q E ⟨B,n,m,t,Z,_⟩=>by rw[Z];rfl) λ{f dG A outer s H E vs Q} nd hr h=>by
  obtain⟨B,n,m,t,Z,_,_,_,h0,_⟩:=h;exact absurd h0 (not_lt_zero _)
 |k+1=>λVM=>by
  obtain⟨ad,fd,ps,F1,m1,k1,b1⟩:=(Cw HW k (by lia)).ex;refine T.d60.fqS (k:=13+k) T.hX UG 4 (λvs H Q E ⟨B,n,m,t,Z,_⟩=>by rw[Z];rfl) λ{f dG A outer s H E vs Q} nd hr h=>?_;have hu:=zU hr;have Dn:(A.deeper (envOfC "_law_ways" (aP (eW 71)) s.heap.objs.size f dG)).units+1<cLine:=by lia
  refine⟨_,cy (xC (KY (CK Dn (cF (i:=2) (by rfl) (by first|exact .inl rfl|exact .inr (.inl rfl)|exact .inr (.inr rfl))) (cF (i:=3) (by rfl) (by first|exact .inl rfl|exact .inr (.inl rfl)|exact .inr (.inr rfl)))))
   (cy (kh (i:=4) nd (by rfl) (by first|exact .inl rfl|exact .inr rfl) (Ei gI))
   (cy (pQ PassesOwn.leaving rfl (kT (bf (WS T) hr (aK 0 (aK 1 (aK 2 am))) (hj:=vR (by decide) (le_add_right 13 k)))) (DZ 5 nd)
    (gR (xC (aM (cS hu) (aR (ag 5) au) aC)
     (gR (AG (AL PySem.F.plainAttrs_list PySem.F.slot_list_append PySem.F.type_list_append nv (cF (i:=4) (by rfl) (by first|exact .inl rfl|exact .inr (.inl rfl)|exact .inr (.inr rfl))) (cO (bK (ah (aR (ag 5) (AS Bb au)) (aK 2 am))) gI (by rfl)) (by rfl) (by rfl) (by rfl) (by rfl) rfl) (by rfl)))
     (gR (kh (i:=4) nd (by rfl) (by first|exact .inl rfl|exact .inr rfl) (Ee Pe (cF (i:=4) (by rfl) (by first|exact .inl rfl|exact .inr (.inl rfl)|exact .inr (.inr rfl))) (Pd (nT:=1) (cap:=[2]) (tgF:=dj 0) (g:=gZ 0) ["_law_way","_law_number"] (vj F1 hr (by rfl) m1 k1 b1 .nil (E:=λ_ _ _=>False) Eo (cO (cF (i:=0) (by rfl) (by first|exact .inl rfl|exact .inr (.inl rfl)|exact .inr (.inr rfl))) (cO (cF (i:=1) (by rfl) (by first|exact .inl rfl|exact .inr (.inl rfl)|exact .inr (.inr rfl))) (cO (aR (ag 5) (AS Bb au)) (cO (cF (i:=3) (by rfl) (by first|exact .inl rfl|exact .inr (.inl rfl)|exact .inr (.inr rfl))) gI))))) gJ (ay b9 (ag 0) (bK (aK 1 am))))))))))
   (gR (p7 Dn (cF (i:=3) (by rfl) (by first|exact .inl rfl|exact .inr (.inl rfl)|exact .inr (.inr rfl))) (cF (i:=2) (by rfl) (by first|exact .inl rfl|exact .inr (.inl rfl)|exact .inr (.inr rfl))) (cF (i:=4) (by rfl) (by first|exact .inl rfl|exact .inr (.inl rfl)|exact .inr (.inr rfl))) (by rfl))))) p5)
   (gR (vh (AQ Dn (cF (i:=3) (by rfl) (by first|exact .inl rfl|exact .inr (.inl rfl)|exact .inr (.inr rfl))) (cF (i:=2) (by rfl) (by first|exact .inl rfl|exact .inr (.inl rfl)|exact .inr (.inr rfl))) (by intro _ _;rfl)))),?_⟩
  obtain⟨B,n,m,t,rfl,u,ir,hn,ZS,md,q⟩:=h;obtain⟨bs,fl,eB,VN,Rw,VO⟩:=(HW n hn (by lia)).ex;have kR:=(HW n hn (by lia)).len;obtain⟨aL,ob,hm,SQ,ZT,vals⟩:=md.ex;refine⟨.int n,rfl,.ref m,rfl,m,fL aL (.inl (n:Int)),rfl,.inl ⟨aL,.inl (n:Int),ob,.inl hm,rfl,rfl⟩,_,rfl,?_⟩;cases hv:fL aL (.inl (n:Int)) with
  |some v=>
   exact⟨.ref m,rfl,.int n,rfl,m,v,rfl,.inl ⟨aL,.inl (n:Int),ob,.inl hm,rfl,hv.symm⟩,q v H B ⟨λ_ _ _ e=>e,.refl _,u.1,λ_ _ e=>.inl e⟩ md (vals n v hv)⟩
  |none=>
   refine⟨uN _,λp hp=>?_⟩;have O:p≠m:=λz=>by rw[z,hm]at hp;cases hp
   have VP:aT B (upd H p (.lst [])):=lg u.1 (u.1.free hp);refine⟨B,[some (.tup ab,false),some (.int aa,false),some (.int n,false),none,none,none],.lst (bs.map (·.1)),fl,VP,⟨u.2,λi d b z=>?_⟩,(show pJ [.tup ab,.int aa,.int n]=_ from eB),λv H2 N2 l i2 _=>?_⟩
   ·match i,z with
    |0,z=>cases z;exact⟨t,rfl,ir⟩
    |1,z=>cases z;exact⟨_,rfl,.int _⟩
    |2,z=>cases z;exact⟨_,rfl,.int _⟩
    |3,z=>cases z
    |4,z=>cases z
    |5,z=>cases z
    |j+6,z=>cases z
   cases i2 with|@lst a vs _ ht hl=>?_
   have Q1:N2 p=none:=by
    cases z:N2 p with
    |none=>rfl
    |some o=>
     rcases l.new p o z with y|y
     ·rw[u.1.free hp]at y;cases y
     ·rw[aA]at y;cases y
   have TR:N2 m=none:=by
    cases z:N2 m with
    |none=>rfl
    |some o=>
     rcases l.new m o z with y|y
     ·rw[md.nn]at y;cases y
     ·rw[aD (λw=>O w.symm),hm]at y;cases y
   have Q2:H2 m=H m:=by rw[hm];exact l.hh _ _ (by rw[aD (λw=>O w.symm)];exact hm)
   refine⟨a,rfl,⟨vs,l.nh.seq ht⟩,UH K aa W bs n m t B H N2,
    ⟨_,N2,p,[],none,rfl,uN _,rfl,⟨λb o hb e=>l.hh _ _ (by rw[aD (λw=>by rw[w,hp]at e;cases e)];exact e),l.bn,l.nh,λb o e=>(l.new b o e).imp id λy=>?_⟩,.refl _,⟨Q1,hp,O⟩,l.hh _ _ aA,.nil,md.up l.bn TR Q2⟩,?_⟩
   ·by_cases w:b=p
    ·rw[w];exact hp
    ·rwa [aD w]at y
   clear Q1 Q2 O VP hp;rintro i μ σ Hc ⟨N,p,C,M,rfl,hi,rfl,c,sN,⟨TU,Ni,O⟩,I,J,U⟩;have TV:=sN.trans c.nh;have D:∃o,Hc m=some o:=let ⟨_,_,h,_⟩:=U.ex;⟨_,h⟩;obtain⟨om,D⟩:=D;rcases lt_or_ge i bs.length with jZ|hge
   ·right;obtain⟨b,hb⟩:∃b,bs[i]? = some b:=⟨_,vU jZ⟩;have PN:=vL hb;obtain⟨x,hx,ix⟩:=hl.get (i:=i) (d:=b.1) (by rw[vA,hb];rfl);have QR:((bs.take (i+1)).flatMap λx=>tp W n x.2)=((bs.take i).flatMap λx=>tp W n x.2)++tp W n b.2:=by rw[take_add_one,hb,toList_some,flatMap_append,uO,flatMap_nil,uQ]
    have Nf:((bs.take (i+1)).flatMap λx=>tp W n x.2).length<=200000:=by
     rw[VO,<-List.take_append_drop (i+1) bs,flatMap_append,uZ]at kR;lia
    rw[QR,uZ]at Nf;have Qr:=J.length;rw[vI]at Qr;refine⟨⟨vs,x,TV.seq ht,hx⟩,λL H'=>UH K aa W bs n m t B H N2 (i+1) (bs.length - (i+1)) L H',λL H' h=>⟨_,by lia,h⟩,λy H' hy=>?_⟩;obtain⟨rfl,hy⟩:=hy;have hy:=hy vs (TV.seq ht);rw[hx]at hy;cases hy
    obtain⟨z,e1,e2⟩:=(VN b PN).kd;have e3:=(VN b PN).nm;have Nk:∀ {N':Hp},aT N N'->eU K N' [some t,some (.int aa),some (.int n),some (.ref m),some (.ref p),some x] [none,none,some (.int n,false),none,none,some (b.1,false)]:=λs=>⟨(u.2.mono c.bn).mono s,λi d b z=>by
     match i,z with
     |0,z=>cases z
     |1,z=>cases z
     |2,z=>cases z;exact⟨_,rfl,.int _⟩
     |3,z=>cases z
     |4,z=>cases z
     |5,z=>cases z;exact⟨_,rfl,(ix.mono sN).mono s⟩
     |j+6,z=>cases z⟩
    refine⟨N,_,b.2.1,c.nh,Nk (.refl _),cY (bC (.str z) (.str "office") (bC b.1 (.int 0) rfl rfl e1) rfl (by simp[e2])),λH3 s3=>?_⟩;have xg:=Ext.grow c.nh s3;cases hb1:b.2.1 with
    |true=>
     refine⟨.ref p,rfl,.inl ⟨rfl,C,fx.of (s3 _ _ I)⟩,N,_,cG [(b.2.2:Int),(n:Int)],true,xg.nh,Nk (.refl _),aN [.int b.2.2,.int n] (cw (bC b.1 (.int (-1)) rfl rfl e3) rfl) (if_pos (N7 (show 2<=200000 by decide))),λv H4 N4 x4 i4 _=>⟨p,C,v,rfl,rfl,x4.hh _ _ (s3 _ _ I),by rw[Qr];exact Sm (by lia),?_⟩⟩;have M:=xg.trans x4;have JZ:=ie M TU I;have R:=ie M U.nn D;exact⟨N4,p,C++[v],some x,rfl,jZ,rfl,(c.trans M.toM (by rw[hm];simp) R).put Ni JZ,sN.trans M.bn,⟨JZ,Ni,O⟩,aA,by
      rw[QR,uW];refine(J.mono M.bn).append ?_;unfold tp;rw[if_pos hb1];exact .cons i4 .nil,U.up M.bn R (by rw[aD (λw=>O w.symm),D];exact M.hh _ _ D)⟩
    |false=>
     obtain⟨S,VQ,Q3,Zc,ZU,Zd⟩:=Rw b PN hb1;rw[VQ]at e3;refine⟨.ref p,rfl,t,rfl,.int aa,rfl,N,_,.int S,false,xg.nh,Nk (.refl _),bC b.1 (.int (-1)) rfl rfl e3,λv H4 N4 x4 i4 _=>?_⟩;cases i4
     have M:=xg.trans x4;have JZ:=ie M TU I;have R:=ie M U.nn D;have Ze:=U.up (H':=H4) M.bn R (by rw[D];exact M.hh _ _ D);refine⟨.ref m,rfl,N4,S,m,t,rfl,⟨M.nh,(u.2.mono c.bn).mono M.bn⟩,(ir.mono c.bn).mono M.bn,Q3,by lia,Ze,λv H5 N5 G Rx i5=>?_⟩;cases i5 with|@lst a2 Zf _ V JQ=>?_
     have Q4:H5 p=some (.lst C):=G.hh _ _ O (M.hh _ _ I);have TW:=Dy G JZ (M.hh _ _ I);refine⟨a2,rfl,⟨Zf,G.nh.seq V⟩,N5,[none,none,some (.int n,false),none,none,none],(W S).map cG,((W S).map (· ++ [(n:Int)])).map cG,G.nh,⟨((u.2.mono c.bn).mono M.bn).mono G.bn,λi d b z=>by
      match i,z with
      |0,z=>cases z
      |1,z=>cases z
      |2,z=>cases z;exact⟨_,rfl,.int _⟩
      |3,z=>cases z
      |4,z=>cases z
      |5,z=>cases z
      |j+6,z=>cases z⟩,FN V JQ,by rw[vI];exact N7 (by lia),GJ rfl Zd,λDd Ri H6 N6 hD r hN6 X=>?_⟩
     have VR:=X.length;rw[vI,vI]at VR;have TX:=r.hh _ _ Q4;have Zg:=ie r TW Q4;obtain⟨ZV,Ry⟩:∃o,H5 m=some o:=let ⟨_,_,h,_⟩:=Rx.ex;⟨_,h⟩;have Q5:=ie r Rx.nn Ry;have VS:(tp W n b.2)=(W S).map (· ++ [(n:Int)]):=by unfold tp;rw[if_neg (by rw[hb1];decide),VQ]
     rw[VS,vI]at Nf;refine⟨p,Dd,C,Ri,rfl,rfl,fx.of TX,fx.of (r.nh _ _ hN6),by rw[Qr,VR];exact N7 (by lia),λp2 Y=>?_⟩;have Nl:p2≠m:=λw=>by rw[w,r.hh _ _ Ry]at Y;cases Y
     have xA:=((c.trans M.toM (by rw[hm];simp) R).trans G (by rw[hm];simp) Rx.nn).trans r.toM (by rw[hm];simp) Q5;have Q6:H p2=none:=by
      cases w:H p2 with
      |none=>rfl
      |some o=>rw[xA.hh _ _ Nl w]at Y;cases Y
     have KH:N6 p2=none:=xA.nh.free Y;exact⟨N6,p2,C++Ri,some x,rfl,jZ,rfl,xA.put Q6 KH,((sN.trans M.bn).trans G.bn).trans r.bn,⟨KH,Q6,Nl⟩,aA,by
      rw[QR,uW,VS];exact(((J.mono M.bn).mono G.bn).mono r.bn).append X,Rx.up r.bn Q5 (by rw[aD (λw=>Nl w.symm),Ry];exact r.hh _ _ Ry)⟩
   ·left;obtain rfl:i=bs.length:=by lia
    rw[take_length,<-VO]at J;refine⟨⟨vs,TV.seq ht,by rw[hl.length,vI];exact vT _⟩,?_⟩;obtain⟨TY,Tw,Zh,VT,VU,Q7⟩:=U.ex;refine⟨.ref p,rfl,.ref m,rfl,.int n,rfl,m,rfl,.inl ⟨TY,.inl (n:Int),Tw,Zh,rfl,Sm (by have:=Made.len VT VU;lia),λNL=>?_⟩⟩;have sA:aT N (upd N p (.lst C)):=λa o e=>by rw[aD (λw=>by rw[w,TU]at e;cases e)];exact e
    refine⟨.ref m,rfl,.int n,rfl,m,.ref p,rfl,.inl ⟨_,.inl (n:Int),NL,.inl aA,rfl,by rw[xH,if_pos rfl]⟩,q (.ref p) _ (upd N p (.lst C)) ⟨λa o ha e=>by rw[aD ha];exact c.hh _ _ ha e,c.bn.trans sA,λa o e=>?_,λa o e=>?_⟩ ⟨by rw[aD (λw=>O w.symm)];exact U.nn,_,NL,aA,?_,?_,λn' v e=>?_⟩ (.lst (fx.of aA) (J.mono sA))⟩
    ·by_cases ha:a=p
     ·rw[ha,aA]at e;cases e;rw[ha,aD O];exact I
     ·rw[aD ha]at e;rw[aD (λw=>by rw[w,U.nn]at e;cases e)];exact c.nh _ _ e
    ·by_cases ha:a=p
     ·rw[ha];exact .inr Ni
     ·rw[aD ha]at e;exact c.new _ _ e
    ·exact Dz VT
    ·exact FP VU ⟨n,rfl,hn⟩
    ·rw[xH]at e;split at e
     ·rename_i hk;cases e
      injection hk with hk;rw[hk];exact .lst (fx.of aA) (J.mono sA)
     ·exact(Q7 n' v e).mono sA
end
end Lw
namespace DL
open PySem PySem.Spec PyProof.Rows L2
theorem dB.lawS {P:Program}{w:World}{K:Frag}{mg:SV}{x y:Str}{st:Stmt}{N:LS}{k:Nat}{sp:Sp}{h:Heap}{fa:Addr}(F:dB K x st)(X:K.In h)(G:h.Ns mainGlobals mg)(M:mg x=some (.ref fa))(S:FnScope N [y] (aP st))(len:∀vs H Q E,sp vs H Q E->vs.length=[y].length)
  (O:∀(kV doc pm:Value)(an:Option Addr)(dG ct:Value)(u:Value),bindArgs (fnOf x x (fK st) (cB st) (aP st) .none kV doc pm an dG ct) ⟨[u],[]⟩=pure [(y,u)])
  (hb:∀(base:Heap),K.In base->base.Ns mainGlobals mg->∀(f:Addr)(dG:Value)(A:Around)(outer:List PySem.Env)(s:Shared)(H:Hp)(E:XK)(vs:LV)(Q:VK),eQ k (A.deeper (envOfC x (aP st) s.heap.objs.size f dG))->sp vs H Q E ->
   ∃t,sP (nu xr P w K mg base N x (aP st) f dG A outer s H E) (cB st) t/\t { nx:=λ_ H'=>Q .non H',rt:=Q } (L2.iJ N vs) H):
  ∃fd:FuncData,(∀(s:Shared)(u:Value),BindsTo s fd ⟨[u],[]⟩ [(y,u)])/\∀base:Heap,K.In base->base.Ns mainGlobals mg->sM P w K mg base xr (k+1) fa fd [y] sp:=by
 obtain⟨f,fd,b,a⟩:=F;have e:=M.symm.trans (mg_of X G a);cases e
 obtain⟨oc,od,kV,doc,pm,an,dG,ct,oi,rfl,c,T⟩:=b.ex;exact⟨_,λs u=>.of_eq (O kV doc pm an dG ct u),λbase d g=>AI c T S len λA outer s H vs Q E hr U=>hb base d g _ _ A outer s H E vs Q hr U⟩
end DL
namespace Lw
open PySem PySem.Spec PyProof.Rows L2 DL
def K7 (K:Frag):List FS->TS->TS
 |[],r=>r
 |g::gs,r=>Lf (ny K g) (K7 K gs r)
theorem Cy {K:Frag}{B0 H0:Hp}{r:TS}{E:Ends}{ρ':DL.Env}(q:∀σ H,vz K B0 H0 H σ ρ'->r E σ H):∀ {gs:List FS}{ρ:DL.Env}{σ:L2.St}{H:Hp},yT gs ρ=some ρ'->vz K B0 H0 H σ ρ->K7 K gs r E σ H
 |[],ρ,σ,H,e,s=>by cases e;exact q σ H s
 |g::gs,ρ,σ,H,e,s=>by
  unfold yT at e;split at e
  ·rename_i M O;exact⟨B0,H0,ρ,.nx M,s,O,λT H' s'=>Cy q e s'⟩
  ·cases e
theorem WT {α:Type}{l:List α}(h:l.length=14):∃a b c d e f g i j k M O T U,l=[a,b,c,d,e,f,g,i,j,k,M,O,T,U]:=by
 obtain⟨a,l,rfl⟩:=exists_cons_of_length_eq_add_one h;obtain⟨b,l,rfl⟩:=exists_cons_of_length_eq_add_one (Nat.succ.inj h);obtain⟨c,l,rfl⟩:=exists_cons_of_length_eq_add_one (Nat.succ.inj (Nat.succ.inj h));rw[vE,vE,vE]at h;obtain⟨d,l,rfl⟩:=exists_cons_of_length_eq_add_one (show l.length=10+1 by lia);rw[vE]at h;obtain⟨e,l,rfl⟩:=exists_cons_of_length_eq_add_one (show l.length=9+1 by lia);rw[vE]at h;obtain⟨f,l,rfl⟩:=exists_cons_of_length_eq_add_one (show l.length=8+1 by lia);rw[vE]at h;obtain⟨g,l,rfl⟩:=exists_cons_of_length_eq_add_one (show l.length=7+1 by lia);rw[vE]at h;obtain⟨i,l,rfl⟩:=exists_cons_of_length_eq_add_one (show l.length=6+1 by lia);rw[vE]at h;obtain⟨j,l,rfl⟩:=exists_cons_of_length_eq_add_one (show l.length=5+1 by lia);rw[vE]at h;obtain⟨k,l,rfl⟩:=exists_cons_of_length_eq_add_one (show l.length=4+1 by lia);rw[vE]at h;obtain⟨M,l,rfl⟩:=exists_cons_of_length_eq_add_one (show l.length=3+1 by lia);rw[vE]at h;obtain⟨O,l,rfl⟩:=exists_cons_of_length_eq_add_one (show l.length=2+1 by lia);rw[vE]at h;obtain⟨T,l,rfl⟩:=exists_cons_of_length_eq_add_one (show l.length=1+1 by lia);rw[vE]at h;obtain⟨U,l,rfl⟩:=exists_cons_of_length_eq_add_one (show l.length=0+1 by lia);rw[vE]at h;obtain rfl:=List.eq_nil_of_length_eq_zero (show l.length=0 by lia);exact⟨_,_,_,_,_,_,_,_,_,_,_,_,_,_,rfl⟩
noncomputable abbrev QO (a b c:Option V)(v3:V)(aa day:Int)(v6 v7 v8:V)(d M O T U:Option V):L2.St:=[a,b,c,some v3,some (.int aa),some (.int day),some v6,some v7,some v8,d,M,O,T,U]
structure Is8 (K:Frag)(N:Hp)(ab:List D)(v3 v6 v7 v8:V)(st bo fr:List D):Prop where
 tb:Tb K N
 i3:Is K N v3 (.tup ab)
 i6:Is K N v6 (.lst st)
 i7:Is K N v7 (.lst bo)
 i8:Is K N v8 (.lst fr)
theorem Is8.mono {K:Frag}{N N':Hp}{ab:LD}{v3 v6 v7 v8:V}{st bo fr:LD}(h:Is8 K N ab v3 v6 v7 v8 st bo fr)(s:aT N N'):Is8 K N' ab v3 v6 v7 v8 st bo fr:=⟨h.tb.mono s,h.i3.mono s,h.i6.mono s,h.i7.mono s,h.i8.mono s⟩
theorem Is8.rep {K:Frag}{N:Hp}{ab:LD}{v3 v6 v7 v8:V}{st bo fr:LD}{k l m n M O T U:Option V}{aa day:Int}{a c f g:OB}(h:Is8 K N ab v3 v6 v7 v8 st bo fr)
  (o:∀d b,a=some (d,b)->∃v,M=some v/\Is K N v d) (p:∀d b,c=some (d,b)->∃v,O=some v/\Is K N v d) (q:∀d b,f=some (d,b)->∃v,T=some v/\Is K N v d) (r:∀d b,g=some (d,b)->∃v,U=some v/\Is K N v d):
  eU K N (QO k l m v3 aa day v6 v7 v8 n M O T U) [none,none,none,some (.tup ab,false),some (.int aa,false),some (.int day,false),some (.lst st,false),some (.lst bo,false),some (.lst fr,false),none,a,c,f,g]:=⟨h.tb,λi d b z=>by
 match i,z with
 |0,z=>cases z
 |1,z=>cases z
 |2,z=>cases z
 |3,z=>cases z;exact⟨_,rfl,h.i3⟩
 |4,z=>cases z;exact⟨_,rfl,.int _⟩
 |5,z=>cases z;exact⟨_,rfl,.int _⟩
 |6,z=>cases z;exact⟨_,rfl,h.i6⟩
 |7,z=>cases z;exact⟨_,rfl,h.i7⟩
 |8,z=>cases z;exact⟨_,rfl,h.i8⟩
 |9,z=>cases z
 |10,z=>obtain⟨v,e,i⟩:=o d b (vK z);exact⟨v,congrArg some e,i⟩
 |11,z=>obtain⟨v,e,i⟩:=p d b (vK z);exact⟨v,congrArg some e,i⟩
 |12,z=>obtain⟨v,e,i⟩:=q d b (vK z);exact⟨v,congrArg some e,i⟩
 |13,z=>obtain⟨v,e,i⟩:=r d b (vK z);exact⟨v,congrArg some e,i⟩
 |j+14,z=>cases z⟩
def UI (K:Frag)(aa day:Int)(W:Int->List LI)(len:Nat)(b c d:Option V)(v3 v6 v7 v8:V)(m:Addr)(e f:Hp)(i g:Nat)(σ:L2.St)(a:Hp):Prop:=∃(N:Hp)(M O T U:Option V),g=len - i/\i<=len/\σ=QO b c d v3 aa day v6 v7 v8 (some (.ref m)) M O T U/\p4 m e N f a/\Made K W N a m
def UJ (aa day:Int)(len:Nat)(a b c:Option V)(v3 v6 v7 v8:V)(m:Addr)(M O T:Option V)(d:Hp)(i e:Nat)(σ:L2.St)(f:Hp):Prop:=∃U:Option V,e=len - i/\i<=len/\σ=QO a b c v3 aa day v6 v7 v8 (some (.ref m)) M O T U/\aT d f
theorem tz {K:Frag}{N:Hp}{x:Option V}:∀(d:D)(b:Bool),(none:OB)=some (d,b)->∃v,x=some v/\Is K N v d:=λ_ _ e=>by cases e
theorem JG {K:Frag}{N:Hp}{v:V}{d0:D}{O:Bool}(h:Is K N v d0):∀(d:D)(b:Bool),some (d0,O)=some (d,b)->∃M,some v=some M/\Is K N M d:=λ_ _ e=>by cases e;exact⟨v,rfl,h⟩
section
variable {P:Program}{w:World}{K:Frag}{mg:SV}{base:Heap}(T:Tx w K mg)
include T
theorem WU:Fn P w K mg base 12 "calls" wN:=T.d61.fq T.hX BM ["book","known","number","day"] 4 λnd hr hu=>
  (bg (bf (UD T) hr (aK 0 (aK 1 (ah (aB (Sw T) hr) (aK 2 (aK 3 am)))))))
theorem WV:Fn P w K mg base 13 "_law_free" rF:=T.d62.fq T.hX yS ["_law_rows_here","_law_known","_law_day","_law_number"] 4 λnd hr hu=>
  (ao (cE (kq (ko (aM zS (aR (aR (aR (ag 0) (ag 3)) au) au) (ag 2)) (jD (fN (ce (aB (QN T) hr)))))) gO)
   (bg (bW (cS hu) (aB (WU T) hr) (bK am))))
noncomputable abbrev UK:List PySem.Str:=["_law_script","_law_names_here","_law_measure","_law_rows_here","_law_known","_law_day","_law_stand","_law_borne","_law_free_here","_law_made","_law_number","_law_ways_here","_law_good","_law_way"]
theorem head {fa:Addr}(Zm:mg "law" = some (.ref fa)):∃fd:FuncData,(∀(s:Shared)(u:Value),BindsTo s fd ⟨[u],[]⟩ [("_law_script",u)])/\∀base:Heap,K.In base->base.Ns mainGlobals mg->sM P w K mg base xr 34 fa fd ["_law_script"] (Ie K F_law):=by
 have S:FnScope UK ["_law_script"] (aP (eW 73)):=by refine⟨rfl,rfl,rfl,?_,rfl,?_,?_⟩<;>decide +kernel
 have ⟨h,X,G⟩:=T.hX;refine dB.lawS (k:=33) T.d63 X G Zm S (λvs H Q E ⟨B,ds,d,b,_,i,e,_⟩=>?_) (λ_ _ _ _ _ _ u=>rfl) λbase kb nb f dG A outer s H E vs Q hr h=>?_
 ·rw[i.length];match ds,e with
  |[],e=>cases e
  |[d],e=>rfl
  |_::_::_,e=>cases e
 have hu:=zU hr;have nd:=S.nd;obtain⟨B,ds,d,b,sB,i,e,q⟩:=h;match ds,i,e with
 |[],i,e=>cases e
 |_::_::_,i,e=>cases e
 |[d0],i,e=>
 match vs,i with
 |[v0],i=>
 have s0:=qd (N:=UK) sB.1 sB.2 i;unfold F_law at e;dsimp only at e;split at e
 case h_2=>cases e
 case h_1 ρ' er=>
 split at e
 case isFalse=>cases e
 case isTrue hc=>
 cases e
 obtain⟨a0,a1,a2,ab,aa,day,st,bo,fr,W,r,rk,b6,b7,b8,rfl,C⟩:=hc;obtain⟨ad,fd,ps,F1,m1,k1,b1⟩:=(Cw (P:=P) (base:=base) T C.ways 20 (by decide)).ex;refine⟨_,cy (show JS _ _ Pg from aJ nd (bf (WP T) hr (ah (bf (GI T) hr (aK 0 (cm am))) am))) (cy (show JS _ _ Ph from aJ nd (aR (bK (cm (cm (cm am)))) (ay bP (bf (GI T) hr (aK 0 (cm am))) au))) (cy (show JS _ _ Pj from aJ nd (bf (WR T) hr (aK 0 (aK 1 (aK 2 (cm am)))))) (cy (show JS _ _ Pk from aJ nd (aR (bK (cm (ah (ay dc (ay bP (ay bR (bf (GI T) hr (aK 0 (cm am))) au) au) (ag 2)) am))) (ay bR (ay bP (bf (GI T) hr (aK 0 (cm am))) au) au))) (cy (show JS _ _ Pl from aJ nd (aR (bK (cm (ah (ay dc (ay bP (ay bR (bf (GI T) hr (aK 0 (cm am))) au) au) (ag 2)) am))) (ay bP (bf (GI T) hr (aK 0 (cm am))) au))) (cy (show JS _ _ Pm from aJ nd (aB (WL T) hr)) (cy (show JS _ _ Pn from aJ nd (fG ["_law_k","_law_known","_law_rows_here"] (ya T.n9 (bG iM T.n5 iN (aK 3 am))) (dH (kq (kn (aM ou (aR (aR (ag 2) (ag 0)) au) (ag 1)) (iK (aM lA (aR (aR (aR (ag 2) (ag 0)) au) au) (bc (ah aC (ah aC (ah aC (ah aC am)))))))))) (ag 0))) (cy (show JS _ _ Po from aJ nd (fG ["_law_k","_law_rows_here","_law_known","_law_day"] (cz (ag 7)) (dH (ce (aB (WV T) hr))) (ag 0))) (cy (kh (i:=9) nd (by rfl) (by first|exact .inl rfl|exact .inr rfl) xK) (cy (pQ PassesOwn.leaving rfl (kT (cF (i:=7) (by rfl) (by first|exact .inl rfl|exact .inr (.inl rfl)|exact .inr (.inr rfl)))) (DZ 10 nd)
   (cy (kh (i:=11) nd (by rfl) (by first|exact .inl rfl|exact .inr rfl) (vj F1 hr (by rfl) m1 k1 b1 .nil (E:=λ_ _ _=>False) Eo (cO (cF (i:=3) (by rfl) (by first|exact .inl rfl|exact .inr (.inl rfl)|exact .inr (.inr rfl))) (cO (cF (i:=4) (by rfl) (by first|exact .inl rfl|exact .inr (.inl rfl)|exact .inr (.inr rfl))) (cO (cF (i:=10) (by rfl) (by first|exact .inl rfl|exact .inr (.inl rfl)|exact .inr (.inr rfl))) (cO (cF (i:=9) (by rfl) (by first|exact .inl rfl|exact .inr (.inl rfl)|exact .inr (.inr rfl))) gI))))))
   (cy (FM (i:=12) (nT:=1) (cap:=[8]) (tgF:=dj 0) (g:=gZ 0) (fc:=Sl) (fe:=ai 0) (N':=["_law_way","_law_free_here"]) rfl nd (by rfl) (by first|exact .inl rfl|rfl) (by rfl) IP (by repeat first|exact .nil rfl|refine QH rfl rfl ?_) (kT (cF (i:=11) (by rfl) (by first|exact .inl rfl|exact .inr (.inl rfl)|exact .inr (.inr rfl)))) (λ_ _ _ _=>Hf 0) (mv (by decide)) (λ_ _ _ _=>dH (ce (bG Bf T.n0 Bd (ah (fG ["_law_k","_law_free_here"] (cz (js (ag 0) (kX au) kW)) gJ (bW lA (ag 0) (ag 1))) am)))) (λ_ _ _ _=>ag 0))
   (cy (xC (show JT _ _ Uw from aM (CQ hu) (bW lA (ag 10) (ag 6)) (bW zS (bG iM T.n5 iN (aK 12 am)) au)) (bg gO) p5)
   (gR (pQ PassesOwn.leaving rfl (kT (show JE _ _ Uz from js (ag 11) kW (kX au))) (DZ 13 nd)
    (gR (xC (show JT _ _ Ux from aM (CQ hu) (aB (WO T) hr) (bW (Pf hu) (ag 13) (ag 12))) (bg gO) p5))))))))
   (gR (vh (show JE _ _ Uy from bG Bf T.n0 Bd (ah (fG ["_law_number","_law_borne"] (cz (ag 6)) gJ (bW lA (ag 0) (ag 1))) am))))))))))))),?_⟩
 refine Cy (gs:=[Pg,Ph,Pj,Pk,Pl,Pm,Pn,Po]) (λσ F ⟨N,s⟩=>?_) er ⟨B,s0⟩;obtain⟨I,L,R,o3,o4,o5,o6,o7,o8,o9,ZW,ZX,ZY,ZZ,rfl⟩:=WT s.len.symm;obtain⟨v3,e,i3⟩:=s.rep.2 3 _ _ rfl;cases vK e
 obtain⟨v4,e,i4⟩:=s.rep.2 4 _ _ rfl;cases vK e
 cases i4
 obtain⟨v5,e,i5⟩:=s.rep.2 5 _ _ rfl;cases vK e
 cases i5
 obtain⟨v6,e,i6⟩:=s.rep.2 6 _ _ rfl;cases vK e
 obtain⟨v7,e,i7⟩:=s.rep.2 7 _ _ rfl;cases vK e
 obtain⟨v8,e,i8⟩:=s.rep.2 8 _ _ rfl;cases vK e
 have J:Is8 K N ab v3 v6 v7 v8 st (bo.map λ(n:Nat)=>.int n) fr:=⟨s.rep.1,i3,i6,i7,i8⟩;have ext:=s.ext;clear s s0 er i3 i6 i8;refine λm ob hm=>?_;have TZ:N m=none:=ext.nh.free hm;cases i7 with|@lst p Rz _ ht hl=>?_
 refine⟨.ref p,rfl,p,rfl,⟨Rz,(lg ext.nh TZ).seq ht⟩,UI K aa day W bo.length I L R v3 v6 (.ref p) v8 m N (upd F m (.dK [] ob)),
  ⟨_,N,_,_,_,_,rfl,uN _,rfl,⟨λ_ _ _ e=>e,.refl _,lg ext.nh TZ,λ_ _ e=>.inl e⟩,TZ,[],ob,aA,nodup_nil,(λ_ h=>by cases h),λ_ _ h=>by cases h⟩,?_⟩
 have VY:upd F m (.dK [] ob) m≠none:=by rw[aA];simp
 rintro i μ σ Hc1 ⟨N1,x10,x11,x12,Zn,rfl,hi,rfl,U,md⟩;have J1:=J.mono U.bn;have sN:=U.bn.trans U.nh;rcases lt_or_ge i bo.length with jZ|hge
 ·right;obtain⟨a,ha⟩:∃a,bo[i]? = some a:=⟨_,vU jZ⟩;have M:=vL ha;obtain⟨x,hx,ix⟩:=hl.get (i:=i) (d:=.int a) (by rw[vA,ha];rfl);cases ix
  refine⟨⟨Rz,.int a,sN.seq ht,hx⟩,λO H'=>UI K aa day W bo.length I L R v3 v6 (.ref p) v8 m N (upd F m (.dK [] ob)) (i+1) (bo.length - (i+1)) O H',λO H' h=>⟨_,by lia,h⟩,λy H' hy=>?_⟩;obtain⟨rfl,hy⟩:=hy;have hy:=hy Rz (sN.seq ht);rw[hx]at hy;cases hy
  obtain⟨bS,eS⟩:=C.slc a M;refine⟨v3,rfl,.int aa,rfl,.int a,rfl,.ref m,rfl,N1,a,m,v3,rfl,⟨U.nh,J1.tb⟩,J1.i3,(C.dom a M).1,(C.dom a M).2,md,λv H2 N2 x2 R0 iw=>?_⟩;have J2:=J1.mono x2.bn;have Zo:=iw;cases iw with|@lst Y ws _ hw hlw=>?_
  refine⟨.ref Y,rfl,Y,rfl,⟨ws,x2.nh.seq hw⟩,N2,E8 ab aa day st (bo.map λ(n:Nat)=>.int n) fr,(W a).map cG,(r a).map cG,x2.nh,J2.rep tz tz tz tz,FN hw hlw,by rw[vI];exact N7 (C.good a M).2,(C.good a M).1,λDd gs H3 N3 hD t hN3 hlg=>?_⟩;have J3:=J2.mono t.bn;have ig:Is K N3 (.ref Dd) (oD (r a)):=.lst (fx.of hN3) hlg;have rp:∀ {N':Hp}{Ua:Option V}{Q8:OB},aT N3 N'->(∀d b,Q8=some (d,b)->∃v,Ua=some v/\Is K N' v d)->eU K N' (QO I L R v3 aa day v6 (.ref p) v8 (some (.ref m)) (some (.int a)) (some (.ref Y)) (some (.ref Dd)) Ua) (Mz ab aa day st (bo.map λ(n:Nat)=>.int n) fr a (W a) (r a) Q8):=λs h=>(J3.mono s).rep (JG (.int _)) (JG ((Zo.mono t.bn).mono s)) (JG (ig.mono s)) h;refine⟨N3,Mz ab aa day st (bo.map λ(n:Nat)=>.int n) fr a (W a) (r a) none,false,t.nh,rp (.refl _) tz,C.test a M,λH4 s4=>?_⟩;refine⟨N3,Mz ab aa day st (bo.map λ(n:Nat)=>.int n) fr a (W a) (r a) none,_,bS,t.nh.trans s4,rp (.refl _) tz,eS,λv H5 N5 c i5 _=>?_⟩;cases i5 with|@lst al vl _ KE Nb=>?_
  have x6:=(t.trans (Ext.grow t.nh s4)).trans c;refine⟨al,rfl,⟨vl,c.nh.seq KE⟩,UJ aa day ((W a).take 8).length I L R v3 v6 (.ref p) v8 m (some (.int a)) (some (.ref Y)) (some (.ref Dd)) H5,⟨_,Zn,rfl,uN _,rfl,.refl _⟩,?_⟩;rintro j ν σ H6 ⟨Ua,rfl,hj,rfl,D⟩;rcases lt_or_ge j ((W a).take 8).length with VZ|hgj
  ·right;obtain⟨l,GR⟩:∃l,((W a).take 8)[j]? = some l:=⟨_,vU VZ⟩;obtain⟨xl,Wa,Zp⟩:=Nb.get (i:=j) (d:=cG l) (by rw[vA,GR];rfl);refine⟨⟨vl,xl,(c.nh.trans D).seq KE,Wa⟩,λO H'=>UJ aa day ((W a).take 8).length I L R v3 v6 (.ref p) v8 m (some (.int a)) (some (.ref Y)) (some (.ref Dd)) H5 (j+1) (((W a).take 8).length - (j+1)) O H',λO H' h=>⟨_,by lia,h⟩,λy H' hy=>?_⟩;obtain⟨rfl,hy⟩:=hy;have hy:=hy vl ((c.nh.trans D).seq KE);rw[Wa]at hy;cases hy
   exact⟨N5,Mz ab aa day st (bo.map λ(n:Nat)=>.int n) fr a (W a) (r a) (some (cG l,false)),false,c.nh.trans D,rp c.bn (JG Zp),C.chn a M l (vL GR),λH7 s7=>⟨_,rfl,VZ,rfl,D.trans s7⟩⟩
  ·left;refine⟨⟨vl,(c.nh.trans D).seq KE,by rw[Nb.length,vI];exact hgj⟩,?_⟩;obtain⟨aL,NL,Ub,_⟩:=R0.ex;have x7:=x6.trans (Ext.grow c.nh D);have PD:=ie x7 R0.nn Ub;exact⟨N5,_,_,_,_,rfl,jZ,rfl,(U.trans x2 VY R0.nn).trans x7.toM VY PD,R0.up x7.bn PD (by rw[Ub];exact x7.hh _ _ Ub)⟩
 ·left;refine⟨⟨Rz,sN.seq ht,by rw[hl.length,vI];exact hge⟩,?_⟩;obtain⟨bF,eF⟩:=C.fin;refine⟨N1,E8 ab aa day st (bo.map λ(n:Nat)=>.int n) fr,_,bF,U.nh,J1.rep tz tz tz tz,eF,λv H' N' x' i' _=>q v H' N' ⟨λb o e=>?_,(ext.bn.trans U.bn).trans x'.bn,x'.nh,λb o e=>?_⟩ i' (by simp)⟩
  ·have e2:=ext.hh b o e;have nb:b≠m:=λw=>by rw[w,hm]at e2;cases e2
   exact x'.hh b o (U.hh b o nb (by rw[aD nb];exact e2))
  ·have key:∀ {Z:Hp},(∀o,F b=some o->b≠m->Z b≠none)->Z b=none->H b=none:=λhz z=>by
    cases w:H b with
    |none=>rfl
    |some o'=>
     have e2:=ext.hh b o' w;exact absurd z (hz o' e2 λw=>by rw[w,hm]at e2;cases e2)
   rcases x'.new b o e with y|y
   ·rcases U.new b o y with y|y
    ·exact ext.new b o y
    ·exact .inr (key (Z:=upd F m (.dK [] ob)) (λo' e' n=>by rw[aD n,e'];simp) y)
   ·exact .inr (key (Z:=Hc1) (λo' e' n=>by rw[U.hh b o' n (by rw[aD n];exact e')];simp) y)
end
end Lw
end
namespace PySem.W.Fast
def tw7343268728624925905:=()
def tw12872458859327736295:=()
def tw7165004740597670722:=()
def tw2523500081559714736:=()
def tw13661331454592954342:=()
def tw17584269921982483988:=()
def tw1680225068076149529:=()
def tw14829598556420254966:=()
def tw16489196586465781565:=()
def tw10399020940653147607:=()
def tw16784173093919272970:=()
def tw7448875793967240604:=()
def tw4664306679819170770:=()
def tw165374163367784200:=()
def tw2935687311974237454:=()
def tw12102961703511067616:=()
def tw4448810272337461346:=()
def tw7407739603535177121:=()
def tw10856940491373743588:=()
def tw565338334760013298:=()
def tw5398894388429288518:=()
def tw5014735910420372791:=()
def tw737048421051950568:=()
def tw17623964062342111142:=()
def tw11780537287451509796:=()
def tw1046072317423030061:=()
def tw4648568136235077734:=()
def tw11238489962460810236:=()
def tw6892291042770972691:=()
def tw15845444086553851730:=()
def tw4961640218041656923:=()
def tw1937727025912226563:=()
def tw1791731631929564045:=()
def tw3377176974615531664:=()
def tw8802233617949233925:=()
def tw1512232420706465852:=()
def tw6665425742929809398:=()
def tw13722505345155708811:=()
def tw12091980470739526186:=()
def tw5777566877325879670:=()
def tw17007034092021586124:=()
def tw4563381048930795139:=()
def tw14946934800963709433:=()
def tw1085670797520492399:=()
def tw14613298618364636339:=()
def tw6114464844953522286:=()
def tw10251432308455369087:=()
def tw13373799449529792436:=()
def tw2112451906776010803:=()
def tw3722047146002043123:=()
def tw10806932171935009164:=()
def tw15651907067948257961:=()
def tw11208995744869556013:=()
def tw17316732023690706648:=()
def tw1633928882739750450:=()
def tw11688868502670100093:=()
def tw3136777262183271499:=()
def tw5577571197577286437:=()
def tw14197738496192907343:=()
def tw17222251148435123643:=()
def tw11537404859063231046:=()
def tw7165025360512993848:=()
def tw3084323517504844844:=()
def tw17005364401251157227:=()
def tw9506555735179163779:=()
def tw4528786404733930034:=()
def tw225488745976345922:=()
def tw2279981661204025212:=()
def tw8812903927532053679:=()
def tw14661475440509910427:=()
def tw18425084701745089709:=()
def tw15214525189025863135:=()
def tw15015809598043011456:=()
def tw17630369267056867231:=()
def tw10920873544878226898:=()
def tw12622016691821728757:=()
def tw13478413552830973783:=()
def tw1446958844325696545:=()
def tw13443041096361384990:=()
def tw6546339080940669917:=()
def tw6577903714289062118:=()
def tw672919711212140177:=()
def tw10974554609272113799:=()
def tw4041750413412942986:=()
def tw6413647990317913613:=()
def tw2963473916401842636:=()
def tw4471784547670585355:=()
def tw7743815459809055899:=()
def tw1193579104279682371:=()
def tw5666324986150344305:=()
def tw17814473816699773657:=()
def tw3743795180824975199:=()
def tw14353254266264201264:=()
def tw17982606649340742238:=()
def tw8861759700194216297:=()
def tw17994670851216713970:=()
def tw12446139451397778301:=()
def tw1395723111492789555:=()
def tw10953016044670280201:=()
def tw16648089742630219137:=()
def tw17575160425320060641:=()
def tw14070355128099721232:=()
def tw17080513358180884165:=()
def tw2228454066019569223:=()
def tw13258886264573448602:=()
def tw5637410958563012613:=()
def tw10793299749840977738:=()
def tw3568738274338196845:=()
def tw14609396863232867445:=()
def tw16740433268457373020:=()
def tw6120896817038942226:=()
def tw16587793557648199167:=()
def tw17382962424393440393:=()
def tw1374153742225345595:=()
def tw17936633192440953574:=()
def tw13931984698041651408:=()
def tw17045014697389782638:=()
def tw4468336645490327464:=()
def tw11611932933076492300:=()
def tw6740263408241523303:=()
def tw1471165723150975083:=()
def tw16092739199270164677:=()
def tw6598022617348113541:=()
def tw7690831326575616757:=()
def tw3975696144580590023:=()
def tw13557532932132202559:=()
def tw1838493121080473136:=()
def tw15072710026940637591:=()
def tw9863207657316608771:=()
def tw12019538658791015564:=()
def tw16865029004430530114:=()
def tw3162100120109557260:=()
def tw6967216923216449466:=()
def tw6685719358405133208:=()
def tw3317178845246978775:=()
def tw8734756980514312250:=()
def tw5115970646046246443:=()
def tw9011356724271517450:=()
def tw15099906734149132626:=()
def tw15104265074019107317:=()
def tw6583090565171703316:=()
def tw316782538590788230:=()
def tw13552961138424939879:=()
def tw16271762705309511529:=()
def tw8238149861106511743:=()
def tw2089396214534849803:=()
def tw1649223627147796473:=()
def tw13664037050019325446:=()
def tw6539281347235474276:=()
def tw1007152964395523660:=()
def tw9045230460395326826:=()
def tw16333503317114637235:=()
def tw400859891230871993:=()
def tw3041417150152587290:=()
def tw12804328396673811916:=()
def tw17214878823676336648:=()
def tw8291104952652210322:=()
def tw13128814122662816210:=()
def tw3483105981970024182:=()
def tw23951335179787366:=()
def tw17352005034110244934:=()
def tw7458837939535183986:=()
def tw5231044645928792972:=()
def tw5278685095357831729:=()
def tw1843321606445132273:=()
def tw18291795923414342182:=()
def tw7211219555707582807:=()
def tw12690676964028070172:=()
def tw2112610296918864586:=()
def tw6903543756754088641:=()
def tw15927310499264073990:=()
def tw5898972271198988131:=()
def tw13231778571195129673:=()
def tw619714278150074598:=()
def tw2867691624524583992:=()
def tw13740747004114638669:=()
def tw4903382894047289140:=()
def tw16314176327909640465:=()
def tw15874031975767841997:=()
def tw13910128141058145193:=()
def tw13064666889989239796:=()
def tw12088201223095934391:=()
def tw8667937168417754086:=()
def tw4054444358752034465:=()
def tw8885171227741970682:=()
def tw2576012107661283467:=()
def tw11485096428599147493:=()
def tw3005830447047646735:=()
def tw16951064179735622544:=()
def tw7126134654430929386:=()
def tw10560920438348219395:=()
def tw891235937810450881:=()
def tw15678536013901709191:=()
def tw11321658866901211845:=()
def tw853423783558287627:=()
def tw9917288617927448153:=()
def tw2969807934552604274:=()
def tw2912652872110710095:=()
def tw15133327859545486435:=()
def tw18038905120821210854:=()
def tw9067265204577855221:=()
def tw9007695973782345559:=()
def tw8784919443421046041:=()
def tw4270879414324410190:=()
def tw3274745589752818003:=()
def tw11965121543979979743:=()
def tw5023697724848556370:=()
def tw3782992405564545947:=()
def tw349200918380510663:=()
def tw11241927344518180216:=()
def tw9954116950208879940:=()
def tw9405876068677910544:=()
def tw6483083697437559623:=()
def tw13786083689619188899:=()
def tw1083149056844889779:=()
def tw9019380495397823853:=()
def tw17594145190867901699:=()
def tw7465840965343563289:=()
def tw6368583499467424240:=()
def tw300537370552216828:=()
def tw17167772821531068658:=()
def tw63004179425239634:=()
def tw11745472427804413482:=()
def tw8702594061003382954:=()
def tw883358128093103682:=()
def tw12010587757008178878:=()
def tw4540402915541968055:=()
def tw4883863956630582567:=()
def tw3698449022755834198:=()
def tw17993328589773153114:=()
def tw8542663888810387717:=()
def tw3821391711151437900:=()
def tw18155715009812171347:=()
def tw15570840903577800539:=()
def tw13590807454895922881:=()
def tw14178648190368835406:=()
def tw11813738031722452760:=()
def tw8209882343412164418:=()
def tw16209385673164114922:=()
def tw4239708830147155866:=()
def tw3041282016670292314:=()
def tw15688203117346751984:=()
def tw542936084134520372:=()
def tw13041195549961083654:=()
def tw15113049316315085022:=()
def tw6641328284687852430:=()
def tw4808321920426934434:=()
def tw13300349156269446435:=()
def tw9403538548374969965:=()
def tw7876313465356429696:=()
def tw7616900553732627859:=()
def tw6855506665070610380:=()
def tw12484426870188461050:=()
def tw11343772612850923775:=()
def tw17500956684829900421:=()
def tw11945155790924267538:=()
def tw5622629584452392399:=()
def tw1864506909169482515:=()
def tw15214149779023260755:=()
def tw14900737520683295931:=()
def tw7012934543819700726:=()
def tw6186765557843682559:=()
def tw2119712293495121147:=()
def tw13543063945515625312:=()
def tw6048388173788340891:=()
def tw16219956636386210426:=()
def tw13958349956204220890:=()
def tw8192378198987254609:=()
def tw17344609685986872526:=()
def tw13135740245167747814:=()
def tw5704913297302302652:=()
def tw15325385468057805132:=()
def tw1716813749117564502:=()
def tw8335660803071886311:=()
def tw11461806124633980957:=()
def tw18249931999146759204:=()
def tw12283739729350204401:=()
def tw8507166208042082884:=()
def tw15374886749691552267:=()
def tw5797974672097939227:=()
def tw13979274635549041812:=()
def tw12452354366873488905:=()
end PySem.W.Fast
open PySem PySem.W PyProof.Rows
set_option maxRecDepth 100000 in
set_option maxHeartbeats 0 in
theorem PySem.Challenge.cw_sealchain_k31_whole_a_way_leads_to_what_holds : PySem.Challenge.rw_sealchain_k31_whole_a_way_leads_to_what.Holds := by
 w_on; o_law; k_head; (case hw => w_witness2)
 k_fill
 refine' DL.walkB (l := PySem.Challenge.rw_sealchain_k31_whole_a_way_leads_to_what) (k := 34) (x := ("_law_script" : PySem.Str)) (f := Lw.F_law) (L := [(("in_order" : PySem.Str), ?t0), (("has_seal" : PySem.Str), ?t1), (("is_first_death" : PySem.Str), ?t2), (("bases_by" : PySem.Str), ?t3), (("as_heard" : PySem.Str), ?t4)]) rfl rfl ⟨rfl, by decide, by decide⟩ (fun w h Y => PySem.W.km_in_of Y) ?T ?D ?F (fun ns h _ => Lw.law_true ns h)
 case T =>
  intro w
  refine' DL.tabs_fit ?h0 ?h1 ?h2 ?h3 ?h4 ?ap ?nt
  iterate 4 (refine' DL.tab_yes ?a ?l ?c ?m ?v; (case a => k_is); (case l => k_is); (case c => exact rfl); (case m => k_is); (case v => exact rfl))
  (case h4 => refine' DL.tab_no ?a; (case a => k_is))
  (case ap => decide)
  (case nt => kernel_rfl)
 case D => kernel_rfl
 case F =>
  intro w mg fa h KX G hmg
  refine' Lw.head ⟨⟨h, KX, G⟩, ?d0, ?d1, ?d2, ?d3, ?d4, ?d5, ?d6, ?d7, ?d8, ?d9, ?d10, ?d11, ?d12, ?d13, ?d14, ?d15, ?d16, ?d17, ?d18, ?d19, ?d20, ?d21, ?d22, ?d23, ?d24, ?d25, ?d26, ?d27, ?d28, ?d29, ?d30, ?d31, ?d32, ?d33, ?d34, ?d35, ?d36, ?d37, ?d38, ?d39, ?d40, ?d41, ?d42, ?d43, ?d44, ?d45, ?d46, ?d47, ?d48, ?d49, ?d50, ?d51, ?d52, ?d53, ?d54, ?d55, ?d56, ?d57, ?d58, ?d59, ?d60, ?d61, ?d62, ?d63, PySem.W.mg_none_of KX G ?z0, PySem.W.mg_none_of KX G ?z1, PySem.W.mg_none_of KX G ?z2, PySem.W.mg_none_of KX G ?z3, PySem.W.mg_none_of KX G ?z4, PySem.W.mg_none_of KX G ?z5, PySem.W.mg_none_of KX G ?z6, PySem.W.mg_none_of KX G ?z7, PySem.W.mg_none_of KX G ?z8, PySem.W.mg_none_of KX G ?z9, PySem.W.mg_none_of KX G ?z10, PySem.W.mg_none_of KX G ?z11, PySem.W.mg_none_of KX G ?z12, PySem.W.mg_none_of KX G ?z13, DL.kc_of KX G ?k0, DL.kd_of KX G ?k1, DL.kc_of KX G ?k2, ?q0, ?q1, ?q2, ?q3⟩ hmg
  iterate 64 (refine' DL.def_mk ?a ?l ?c ?k; (case a => k_is); (case l => k_is); (case c => k_is); (case k => k_is))
  (case z0 => k_is)
  (case z1 => k_is)
  (case z2 => k_is)
  (case z3 => k_is)
  (case z4 => k_is)
  (case z5 => k_is)
  (case z6 => k_is)
  (case z7 => k_is)
  (case z8 => k_is)
  (case z9 => k_is)
  (case z10 => k_is)
  (case z11 => k_is)
  (case z12 => k_is)
  (case z13 => k_is)
  (case k0 => refine' DL.const_tup ?e ?l ?v; (case e => k_is); (case l => k_is); (case v => decide +kernel))
  (case k1 => refine' DL.const_dict ?e ?l ?r ?s; (case e => k_is); (case l => k_is); (case r => refine' (DL.CRows.tup rfl ?l0 ?f0 (DL.CRows.tup rfl ?l1 ?f1 (DL.CRows.tup rfl ?l2 ?f2 (DL.CRows.tup rfl ?l3 ?f3 (DL.CRows.tup rfl ?l4 ?f4 (DL.CRows.tup rfl ?l5 ?f5 (DL.CRows.tup rfl ?l6 ?f6 (DL.CRows.tup rfl ?l7 ?f7 (DL.CRows.tup rfl ?l8 ?f8 (DL.CRows.tup rfl ?l9 ?f9 (DL.CRows.tup rfl ?l10 ?f10 (DL.CRows.tup rfl ?l11 ?f11 DL.CRows.nil)))))))))))); (case l0 => k_is); (case f0 => decide +kernel); (case l1 => k_is); (case f1 => decide +kernel); (case l2 => k_is); (case f2 => decide +kernel); (case l3 => k_is); (case f3 => decide +kernel); (case l4 => k_is); (case f4 => decide +kernel); (case l5 => k_is); (case f5 => decide +kernel); (case l6 => k_is); (case f6 => decide +kernel); (case l7 => k_is); (case f7 => decide +kernel); (case l8 => k_is); (case f8 => decide +kernel); (case l9 => k_is); (case f9 => decide +kernel); (case l10 => k_is); (case f10 => decide +kernel); (case l11 => k_is); (case f11 => decide +kernel)); (case s => decide +kernel))
  (case k2 => refine' DL.const_tup ?e ?l ?v; (case e => k_is); (case l => k_is); (case v => decide +kernel))
  iterate 4 (refine' DL.lam_mk ?a ?l ?c ?m ?v1 ?v2 ?v3 ?v4 ?v5 ?v6 ?v7; (case a => k_is); (case l => k_is); (case c => exact rfl); (case m => k_is); (case v1 => exact rfl); (case v2 => exact rfl); (case v3 => exact rfl); (case v4 => exact rfl); (case v5 => exact rfl); (case v6 => exact rfl); (case v7 => decide))

