import PyProof.Rows.All
import Wide.All
import OpenK.AllK
import Wide.FinOn
import Lean
import PyProof.EqAt
import PyProof.EqKinds
import PyProof.TupleCall
import PyProof.AttrMissHeap
import PySem.Challenge.RW_sealchain_k53_whole_chains_reach_no_furt
set_option Elab.async false
set_option linter.all false
set_option maxRecDepth 100000
set_option bootstrap.genMatcherCode false
set_option compiler.extract_closed false
set_option backward.eqns.nonrecursive false
set_option genSizeOf false
set_option genInjectivity false
set_option maxHeartbeats 40000000
namespace Lake
def rr {α:Sort _}{a:α}:a=a:=rfl
def N9 {p:Prop}(h:p:=by lia):p:=h
def X9 {p:Prop}(h:p:=by simp):p:=h
def H9 {p:Prop}(h:p:=by decide):p:=h
def S9 {p:Prop}(h:p:=by decide +kernel):p:=h
def O9 {p:Prop}(h:p:=by rfl):p:=h
def I9 {p:Prop}(h:p:=by simp;lia):p:=h
def s9 {p:Prop}(h:p:=by simp[sizeLine]):p:=h
def u9 {p:Prop}(h:p:=by kernel_rfl):p:=h
def w9 {p:Prop}(h:p:=by size_fits):p:=h
def mY {α:Type _}{a:α}(l:List α){k:List α}(h:a∈k):a∈l++k:=List.mem_append_right l h
def mZ {α:Type _}(b:α){a:α}{l:List α}(h:a∈l):a∈b::l:=List.mem_cons_of_mem b h
theorem mX {α:Type _}{a:α}{l:List α}:a∈a::l:=List.mem_cons_self
def cX {p:Prop}(h:∀q:Prop,(p->q)->q):p:=h p id
def oX {α M:Type _}{o:Option α}{f:α->Option M}{b:M}(h:o.bind f=some b):∃a,o=some a/\f a=some b:=Option.bind_eq_some_iff.mp h
def oY {α M:Type _}{f:α->M}{o:Option α}{b:M}(h:o.map f=some b):∃a,o=some a/\f a=b:=Option.map_eq_some_iff.mp h
def wX:=@PySem.wpAny_bind
def wY:=@PySem.wpAny_pure
def vZ:=@PySem.Heap.get?_push_of_some
def vY:=@PySem.Heap.get?_push_size
def vX:=@PySem.Heap.lt_size
def vW:=@PySem.Heap.SameBut.update
def vV {α:Type _}{l:List α}{i:Nat}{a:α}(h:l[i]? = some a):∃h:i<l.length,l[i]=a:=List.getElem?_eq_some_iff.mp h
def vU {α:Type _}{l:List α}{i:Nat}(h:i<l.length):l[i]? = some l[i]:=List.getElem?_eq_getElem h
def vT (n:Nat):n<=n:=Nat.le_refl n
def vS {a b:Nat}(h:a<b):a≠b:=Nat.ne_of_lt h
def vR {n m k:Nat}:n<=m->m<=k->n<=k:=Nat.le_trans
def vQ {n m k:Nat}:n<m->m<=k->n<k:=Nat.lt_of_lt_of_le
def vP {α:Type _}{a b:α}{l:List α}(h:b∈a::l):b=a\/b∈l:=List.mem_cons.mp h
def vO {α M:Type _}{b:M}{f:α->M}{l:List α}(h:b∈l.map f):∃a,a∈l/\f a=b:=List.mem_map.mp h
def eX {α M:Type _}{o:Option α}{f:α->Option M}{b:M}{G:Prop}(h:o.bind f=some b)(k:∀a,o=some a->f a=some b->G):G:=(oX h).elim λa x=>k a x.1 x.2
def eZ {α M:Type _}{f:α->M}{o:Option α}{b:M}{G:Prop}(h:o.map f=some b)(k:∀a,o=some a->f a=b->G):G:=(oY h).elim λa x=>k a x.1 x.2
def vN {α:Type _}{a:α}{p:α->Bool}{l:List α}(h:a∈l.filter p):a∈l/\p a=true:=List.mem_filter.mp h
def vM {α:Type _}(p:α->Bool)(l:List α):(l.filter p).length<=l.length:=List.length_filter_le p l
def vL {α:Type _}{l:List α}{i:Nat}{a:α}(h:l[i]? = some a):a∈l:=List.mem_of_getElem? h
def vK {α:Type _}{a b:α}(h:some a=some b):a=b:=Option.some.inj h
def vJ {α M:Type _}(a:α)(f:α->Option M):(some a).bind f=f a:=rfl
def vI {α M:Type _}{as:List α}(f:α->M):(as.map f).length=as.length:=List.length_map f
def vH {α:Type _}{l:List α}:l.toArray.size=l.length:=rfl
def vG {α:Type _}{xs:Array α}:xs.toList.length=xs.size:=rfl
def vF {α:Type _}{l:List α}{i:Nat}{a:α}:l.getD i a=l[i]?.getD a:=List.getD_eq_getElem?_getD
def vE {α:Type _}{a:α}{as:List α}:(a::as).length=as.length+1:=rfl
def vC (a b:Bool):((a && b)=true)=(a=true/\b=true):=Bool.and_eq_true a b
def vB {α:Type _}{i j:Nat}{a:α}{l:List α}(h:i≠j):(l.set i a)[j]? = l[j]?:=List.getElem?_set_ne h
def vA {α M:Type _}{f:α->M}{l:List α}{i:Nat}:(l.map f)[i]? = Option.map f l[i]?:=List.getElem?_map
def uZ {α:Type _}{as bs:List α}:(as++bs).length=as.length+bs.length:=List.length_append
def uY {α M:Type _}{f:α->M}{a:α}{l:List α}:(a::l).map f=f a::l.map f:=rfl
def uX:false≠true:=Bool.false_ne_true
def uW {α O:Type _}{f:α->O}{l M:List α}:(l++M).map f=l.map f++M.map f:=List.map_append
def uV:(false=true)=False:=Bool.false_eq_true
def uU {α:Type _}{x:Option α}(h:x.isSome=true):∃a,x=some a:=Option.isSome_iff_exists.mp h
def uT {α:Type _}{a b:α}(h:a∈[b]):a=b:=List.mem_singleton.mp h
def uS {α M:Type _}{b:M}{f:α->M}{l:List α}(h:∃a,a∈l/\f a=b):b∈l.map f:=List.mem_map.mpr h
def uR {α:Type _}{l:List α}{p:α->Bool}(h:l.all p=true):∀x∈l,p x=true:=List.all_eq_true.mp h
def uQ {α:Type _}(as:List α):as++[]=as:=List.append_nil as
def uP {α M O:Type _}{g:M->O}{f:α->M}{l:List α}:(l.map f).map g=l.map (g ∘ f):=List.map_map
def uN (n:Nat):0<=n:=Nat.zero_le n
def mf {p:Prop}[Decidable p](h:p):decide p=true:=decide_eq_true h
def oC {p:Prop}[Decidable p](h:¬p):decide p=false:=decide_eq_false h
def xG {p:Prop}[Decidable p](h:decide p=true):p:=of_decide_eq_true h
noncomputable section
abbrev _root_.PySem.Shared.z (s:PySem.Shared):=s.heap.objs.size
open PySem.W (Frag kia_one fnOf nsIn mg_of)
open List (mem_append mem_append_left getElem?_set_self mem_filterMap nodup_cons of_mem_zip getElem?_append_right getElem?_append_left take_sublist length_take length_set all_cons any_cons nodup_nil lookup_cons length_replicate append_assoc not_mem_nil all_map length_range getElem_range mem_singleton find?_cons pairwise_cons mem_iff_getElem? pairwise_map getElem_mem nodup_append take_add_one mem_range getElem?_eq_none ext_getElem? not_lt lt_irrefl lt_trans nil_perm cons_lt_cons_iff cons_append getElem?_zip_eq_some length_zip zip_cons_cons foldl_cons take_length reverse_cons all_eq_true length_zipIdx zip_map' filter_sublist mem_of_mem_take mem_filter flatMap_cons length_singleton map_id mem_cons length_nil any_eq_true map_set forall_mem_cons)
open Nat (le_of_lt ne_of_gt le_succ_of_le le_succ le_of_eq lt_of_le_of_lt lt_succ_of_lt)
open PySem.F (slot_tuple_add slot_dict_get entry_dict_get plainAttrs_dict plainAttrs_list slot_tuple_iterator_next slot_zip_next entry_zip_next args_zip_next_1 called_set slot_set_iter plain_extend_loop slot_tuple_lt slot_tuple_gt called_list slot_list_getattribute)
abbrev QV:=PySem.Value->PySem.Shared->Prop
abbrev AO:=List (PySem.Addr×PySem.Obj)
abbrev SV:=PySem.Str->Option PySem.Value
abbrev LU:=List PySem.Value
abbrev AV:=Array PySem.Value
abbrev LS:=List PySem.Str
abbrev QD:=List PySem.Expr
abbrev LN:=List Nat
abbrev LI:=List Int
abbrev OI:=Option Int
namespace L2
open PySem PySem.Spec PyProof.Rows
abbrev dh:=Sum Int Str
noncomputable def sY:dh->Value->Bool
 |.inl k,v=>Value.isInt k v
 |.inr x,v=>Value.isStrOf x v
noncomputable def YG (w:World):dh->Int
 |.inl k=>hashInt k
 |.inr x=>hashStr w x
theorem cI:∀ {k:dh}{v:Value},sY k v=true->(∃i t,k=Sum.inl i/\v=Value.int i t)\/(∃x t,k=Sum.inr x/\v=Value.str x t)
 |.inl i,v,h=>by
  obtain⟨t,e⟩:=Value.isInt_shape h;exact .inl ⟨i,t,rr,e⟩
 |.inr x,v,h=>by
  obtain⟨t,e⟩:=Value.isStrOf_shape h;exact .inr ⟨x,t,rr,e⟩
def ES (i:Int)(t:Tok):sY (.inl i) (.int i t)=true:=by simp[sY,Value.isInt]
def ET (x:Str)(t:Tok):sY (.inr x) (.str x t)=true:=by simp[sY,Value.isStrOf]
def P9 (a b:Int):decide ((Sum.inl a:dh)=Sum.inl b)=(a == b):=by
 lia
def PB (a b:Str):decide ((Sum.inr a:dh)=Sum.inr b)=decide (a=b):=by
 simp
def PD (a:Int)(b:Str):decide ((Sum.inl a:dh)=Sum.inr b)=false:=O9
def PF (a:Str)(b:Int):decide ((Sum.inr a:dh)=Sum.inl b)=false:=O9
def ce (prog:Program)(w:World):PySem.KeyKind prog w dh where
 is:=sY
 hash:=YG w
 inj:=λv a b ha hb=>by
  grind[cI]
 byValue:=λk v h=>by
  rcases cI h with⟨i,t,rfl,rfl⟩|⟨x,t,rfl,rfl⟩<;>rfl
 pyHash:=λhv h=>by
  rcases cI hv with⟨i,t,rfl,rfl⟩|⟨x,t,rfl,rfl⟩
  .exact wpAny_pyHash_int h
  .exact wpAny_pyHash_str h
 eqBool:=λhu hv h=>by
  rcases cI hu with⟨i,t,rfl,rfl⟩|⟨x,t,rfl,rfl⟩
  .rcases cI hv with⟨j,u,rfl,rfl⟩|⟨y,u,rfl,rfl⟩
   .rw[P9]at h;exact wpAny_eqBool_int h
   .rw[PD]at h;exact SeqAt.EqAt.int_str i t y u _ _ _ _ h
  .rcases cI hv with⟨j,u,rfl,rfl⟩|⟨y,u,rfl,rfl⟩
   .rw[PF]at h;exact SeqAt.EqAt.str_int x t j u _ _ _ _ h
   .rw[PB]at h;exact wpAny_eqBool_str h
 «strs»:=λk x t v h=>by
  rcases cI h with⟨i,u,rfl,e⟩|⟨y,u,rfl,e⟩
  .exact nomatch e
  .injection e with e1 _;subst e1;cases v<;>rfl
def xI (prog:Program)(w:World)(i:Int)(t:Tok):(ce prog w).is (.inl i) (.int i t)=true:=ES i t
def xJ (prog:Program)(w:World)(x:Str)(t:Tok):(ce prog w).is (.inr x) (.str x t)=true:=ET x t
set_option genInjectivity true in
inductive V where
 |non|bl (b:Bool)|int (i:Int)|str (x:Str)|byt (b:Array UInt8)|flt (b:UInt64)|ref (a:Addr)|ty (n:String)
def aD:V->Value->Prop
 |.non,u=>u=Value.none
 |.bl b,u=>u=Value.bool b
 |.int i,u=>∃t,u=Value.int i t
 |.str x,u=>∃t,u=Value.str x t
 |.byt b,u=>∃t,u=Value.bytes b t
 |.flt b,u=>∃t,u=Value.float b t
 |.ref a,u=>u=Value.ref a
 |.ty n,u=>u=Value.type n
abbrev aL:List V->LU->Prop:=Paired aD
def aL.length (r:aL xs us):xs.length=us.length:=Paired.length r
theorem aL.get:∀ {xs:List V}{us:LU}{i:Nat}{x:V},aL xs us->xs[i]? = some x->∃u,us[i]? = some u/\aD x u
 |_,_,_,_,.nil,e=>by simp at e
 |_,_,0,_,.cons r _,e=>by simp_all
 |_,_,i+1,x,.cons _ t,e=>by
  obtain⟨u,h1,h2⟩:=aL.get t (by simpa using e);simp_all
theorem aL.set (r:aD x u):∀ {xs:List V}{us:LU}(i:Nat),aL xs us->aL (xs.set i x) (us.set i u)
 |_,_,_,.nil=>.nil
 |_,_,0,.cons _ t=>.cons r t
 |_,_,i+1,.cons q t=>.cons q (aL.set r i t)
theorem aL.append:∀ {xs ys:List V}{us ws:LU},aL xs us->aL ys ws->aL (xs++ys) (us++ws)
 |_,_,_,_,.nil,s=>s
 |_,_,_,_,.cons r t,s=>.cons r (aL.append t s)
theorem aL.take:∀ {xs:List V}{us:LU}(n:Nat),aL xs us->aL (xs.take n) (us.take n)
 |_,_,0,_=>.nil
 |_,_,_+1,.nil=>.nil
 |_,_,n+1,.cons r t=>.cons r (aL.take n t)
theorem aL.drop:∀ {xs:List V}{us:LU}(n:Nat),aL xs us->aL (xs.drop n) (us.drop n)
 |_,_,0,r=>r
 |_,_,_+1,.nil=>.nil
 |_,_,n+1,.cons _ t=>aL.drop n t
def kX:Option V->Option Value->Prop
 |some v,some u=>aD v u
 |none,none=>True
 |_,_=>False
def KV {κ:Type}:List (κ×V)->List (κ×Value)->Prop:=Paired λ(p:κ×V) (q:κ×Value)=>p.1=q.1/\aD p.2 q.2
noncomputable def kV:dh->V
 |.inl i=>.int i
 |.inr x=>.str x
set_option genInjectivity true in
inductive HO where
  |lst (xs:List V)
  |tup (xs:List V)
  |dK (a9:List (dh×V)) (ob:Obj)|dT (a9:List (List dh×V))
  |set (S:Int->Bool) (n:Nat)
  |ins (C dx:Addr) (fs:List (Str×V))
  |own (x:Addr)
  |xd (fs:List (Str×V))
  |met (f x:Addr)
  |rng (lo hi:Int)
  |frz (o:Obj) (u:HO)
  |tbl (q:Str)
  |ext (φ:Heap->Prop)
abbrev Hp:=Addr->Option HO
noncomputable def upd (H:Hp)(a:Addr)(o:HO):Hp:=λb=>if b=a then some o else H b
def au:upd H a o a=some o:=by unfold upd;rw[if_pos rr]
theorem a6 (h:b≠a):upd H a o b=H b:=by unfold upd;rw[if_neg h]
def ml:upd (upd H a o) a u=upd H a u:=by
 grind[upd]
def TK {H:Hp}{a b:Addr}{o u:HO}(h:H a=some o)(h':H b=some u)(d:o≠u):a≠b:=by
 lia
def aN {H:Hp}{a b:Addr}{o:HO}(h:H a=some o)(h':H b=none):a≠b:=by
 lia
section
variable (P:Program) (w:World)
def bj (H:Hp)(h:Heap)(a:Addr):HO->Prop
 |.lst xs=>xs.length<=sizeLine/\∃(its:LU)(n:Nat),aL xs its/\h.get? a=some { cls:=.type "list",data:=.seq its.toArray n }
 |.tup xs=>xs.length<=sizeLine/\∃its:LU,aL xs its/\IsTup h a its.toArray
 |.dK a9 ob=>h.get? a=some ob/\a9.length<=sizeLine/\(a == sysModules)=false/\∃vs,KV a9 vs/\h.DictOf (ce P w) a vs
 |.dT a9=>a9.length<=sizeLine/\(a == sysModules)=false/\∃xs:List (List dh×Addr×Value),
   Paired (λ(p:List dh×V) (q:List dh×Addr×Value)=>p.1=q.1/\H q.2.1=some (.tup (p.1.map kV))/\aD p.2 q.2.2) a9 xs /\
   ∃o es b,h.get? a=some o/\o.ExactDict/\o.data=.dict es b/\es.toList=xs.map (entryOfKey (tupleKind (ce P w)))/\(xs.map (·.1)).Nodup
 |.set S n=>h.SetOf (intKind P w) a S n
 |.ins C dx fs=>H dx=some (.own a)/\fs.length<=1000/\dx≠a/\h.get? a=some (PySem.W.instObj C dx) /\
   ∃mA,h.Ns1 dx mA/\(∀f,kX (fs.lookup f) (mA f))/\PySem.Within mA (fs.map (·.1))
 |.own _=>∃o,h.get? a=some o
 |.xd fs=>∃mA,h.Ns1 a mA/\∀f,kX (fs.lookup f) (mA f)
 |.rng lo hi=>∃t u v,h.get? a=some { cls:=.type "range",data:=.fields #[.int lo t,.int hi u,.int 1 v] }
 |.frz o u=>h.get? a=some o/\bj H h a u
 |.tbl q=>∃ps:AV,h.get? a=some { cls:=.none,data:=.fields ps }/\TriplesOk ps.toList/\∀M O,codeAmong M ps.toList=some O->∃(c:Addr)(oc:Obj)(u:HO)(vs:AV)(t:Tok),O=.ref c/\H c=some (.frz oc u)/\oc.data=.fields vs/\vs[1]? = some (.str q t)
 |.met f x=>h.get? a=some (PySem.W.methodObj (.ref f) (.ref x))
 |.ext φ=>φ h/\(∃o,h.get? a=some o)/\∀h1 h2:Heap,φ h1->(∀o,h1.get? a=some o->h2.get? a=some o)->φ h2
def kY (H:Hp)(h:Heap):Prop:=∀a o,H a=some o->bj P w H h a o
end
section
variable {P:Program}{w:World}{H H':Hp}{h h':Heap}{a:Addr}{o:HO}
def bj.lt (x:bj P w H h a o):a<h.objs.size:=by
 cases o with
 |lst xs=>obtain⟨_,_,_,_,e⟩:=x;exact vX e
 |tup xs=>obtain⟨_,_,_,p⟩:=x;exact p.lt
 |dK a9 ob=>exact vX (And.left x)
 |dT a9=>obtain⟨_,_,_,_,o,_,_,e,_⟩:=x;exact vX e
 |set S n=>obtain⟨o,_,_,_,e,_⟩:=x;exact vX e
 |ins C dx fs=>obtain⟨_,_,_,e,_⟩:=x;exact vX e
 |own y=>obtain⟨_,e⟩:=x;exact vX e
 |xd fs=>obtain⟨_,⟨_,_,_,e,_⟩,_⟩:=x;exact vX e
 |rng lo hi=>obtain⟨_,_,_,e⟩:=x;exact vX e
 |frz ob u=>obtain⟨e,_⟩:=x;exact vX e
 |tbl q=>obtain⟨_,e,_⟩:=x;exact vX e
 |met f y=>exact vX (show h.get? a=some _ from x)
 |ext φ=>obtain⟨_,⟨_,e⟩,_⟩:=x;exact vX e
theorem Paired.mapP {α c:Type}{F G:α->c->Prop}:∀ {M:List α}{O:List c},Paired F M O->(∀a b,F a b->G a b)->Paired G M O
 |_,_,.nil,_=>.nil
 |_,_,.cons r t,f=>.cons (f _ _ r) (Paired.mapP t f)
def bj.stay (x:bj P w H h a o)(k:∀b u,(b=a\/H b=some (.own a))->h.get? b=some u->h'.get? b=some u)
  (ho:∀b,H b=some (.own a)->H' b=some (.own a)) (i:∀b xs,H b=some (.tup xs)->H' b=some (.tup xs)) (hf:∀b o u,H b=some (.frz o u)->H' b=some (.frz o u)):bj P w H' h' a o:=by
 induction o with
 |lst xs=>obtain⟨z,its,n,r,e⟩:=x;exact⟨z,its,n,r,k _ _ (.inl rr) e⟩
 |tup xs=>obtain⟨z,its,r,ob,e,c⟩:=x;exact⟨z,its,r,ob,k _ _ (.inl rr) e,c⟩
 |dK a9 j=>obtain⟨g,z,y,vs,r,ob,es,M,e,c⟩:=x;exact⟨k _ _ (.inl rr) g,z,y,vs,r,ob,es,M,k _ _ (.inl rr) e,c⟩
 |dT a9=>
  refine cX λG K=>?_;obtain⟨z,y,xs,r,ob,es,M,e,c⟩:=x;apply K;exact⟨z,y,xs,Paired.mapP r λp q z=>⟨z.1,i _ _ z.2.1,z.2.2⟩,ob,es,M,k _ _ (.inl rr) e,c⟩
 |set S n=>obtain⟨ob,es,M,t,e,c⟩:=x;exact⟨ob,es,M,t,k _ _ (.inl rr) e,c⟩
 |ins C dx fs=>
  refine cX λG K=>?_;obtain⟨d,z,ne,e,mA,⟨od,es,M,e2,c⟩,r⟩:=x;apply K;exact⟨ho _ d,z,ne,k _ _ (.inl rr) e,mA,⟨od,es,M,k _ _ (.inr d) e2,c⟩,r⟩
 |own y=>obtain⟨ob,e⟩:=x;exact⟨ob,k _ _ (.inl rr) e⟩
 |xd fs=>obtain⟨mA,⟨od,es,M,e,c⟩,r⟩:=x;exact⟨mA,⟨od,es,M,k _ _ (.inl rr) e,c⟩,r⟩
 |rng lo hi=>obtain⟨t,u,v,e⟩:=x;exact⟨t,u,v,k _ _ (.inl rr) e⟩
 |frz ob u l=>obtain⟨e,q⟩:=x;exact⟨k _ _ (.inl rr) e,l q⟩
 |tbl q=>obtain⟨ps,e,t,c⟩:=x;exact⟨ps,k a _ (.inl rr) e,t,λO m z=>let ⟨d,oc,u,vs,tk,s,A,B⟩:=c O m z;⟨d,oc,u,vs,tk,s,hf _ _ _ A,B⟩⟩
 |met f y=>
  have e:=x;exact k a _ (.inl rr) e
 |ext φ=>obtain⟨p,⟨o,e⟩,st⟩:=x;exact⟨st _ _ p λo q=>k _ _ (.inl rr) q,⟨o,k _ _ (.inl rr) e⟩,st⟩
def kY.lt (x:kY P w H h)(e:H a=some o):a<h.objs.size:=(x a o e).lt
def kY.fresh (x:kY P w H h)(e:h.objs.size<=a):H a=none:=by
 cases q:H a with
 |none=>rfl
 |some u=>exact absurd (vQ (x.lt q) e) (Nat.lt_irrefl _)
def kY.kept (x:kY P w H h)(k:∀b u,h.get? b=some u->h'.get? b=some u):kY P w H h':=λa o e=>
 (x a o e).stay (λb u _ q=>k b u q) (λ_ q=>q) (λ_ _ q=>q) λ_ _ _ q=>q
def kY.laid (x:kY P w H h)(k:∀b u,h.get? b=some u->h'.get? b=some u)(hp:h.objs.size<=a)(new:bj P w (upd H a o) h' a o):kY P w (upd H a o) h':=λb u e=>by
 have hn:=x.fresh hp;by_cases hb:b=a
 .simp_all[au]
 .rw[a6 hb]at e;exact(x b u e).stay (λc v _ q=>k c v q) (λc q=>by rw[a6 (aN q hn)];exact q) (λc xs q=>by rw[a6 (aN q hn)];exact q) λc o xs q=>by rw[a6 (aN q hn)];exact q
end
def Rd (H:Hp)(a:Addr)(u:HO):Prop:=H a=some u\/∃o,H a=some (.frz o u)
def Rd.ok (r:Rd H a u)(x:kY P w H h):bj P w H h a u:=by
 rcases r with r|⟨o,r⟩
 .exact x a u r
 .obtain⟨_,q⟩:=x a _ r;exact q
def TL:Option HO->Prop
 |some (.lst _)=>True
 |some (.dK _ _)=>True
 |some (.dT _)=>True
 |some (.set _ _)=>True
 |some (.ins _ _ _)=>True
 |some (.ext _)=>True
 |_=>False
section
variable {P:Program}{w:World}{H:Hp}{h h':Heap}{x e:Addr}{o':HO}
def kY.write (ok:kY P w H h)(M:TL (H x))(he:e=x\/H e=some (.own x))(k:∀b u,b≠e->h.get? b=some u->h'.get? b=some u)(a:∃u,h'.get? e=some u)
  (new:bj P w (upd H x o') h' x o'):kY P w (upd H x o') h':=λb u q=>by
 have O:∀c y,H c=some (.own y)->c≠x:=λc y r z=>by subst z;rw[r]at M;exact M
 have g:∀c xs,H c=some (.tup xs)->c≠x:=λc xs r z=>by subst z;rw[r]at M;exact M
 by_cases hb:b=x
 .simp_all[au]
 .rw[a6 hb]at q;by_cases d:b=e
  .have f:H b=some (.own x):=by
    lia
   rw[q]at f;cases f;obtain⟨v,hv⟩:=a;exact⟨v,by rw[d];exact hv⟩
  .refine(ok b u q).stay (λc v hc r=>k c v ?_ r) (λc r=>by rw[a6 (O c b r)];exact r) (λc xs r=>by rw[a6 (g c xs r)];exact r) λc o xs r=>by rw[a6 (λz=>by subst z;rw[r]at M;exact M)];exact r
   grind
end
structure Un (fs ex:List Addr)(H H':Hp)(h h':Heap):Prop where
 keep:∀b o,h.get? b=some o->H b=none->b∉fs->b∉ex->h'.get? b=some o
 slot:∀b o,h.get? b=some o->H b=none->b∈fs->b∉ex->∃sl,h'.get? b=some { o with slots:=sl }
 free:∀b o,h.get? b=some o->H b=none->b∉ex->H' b=none
 there:∀b o,h.get? b=some o->b∉ex->∃o',h'.get? b=some o'
 tups:∀b xs,H b=some (.tup xs)->H' b=some (.tup xs)
 frzs:∀b o u,H b=some (.frz o u)->H' b=some (.frz o u)
 tbls:∀b q,H b=some (.tbl q)->H' b=some (.tbl q)
section
variable {fs fs' ex ex':List Addr}{H H1 H2:Hp}{h h1 h2 h':Heap}{a x e:Addr}{o:HO}
def Un.any (u:Un fs ex H H1 h h1)(q:h.get? b=some ob)(n:H b=none)(hx:b∉ex):∃sl,h1.get? b=some { ob with slots:=sl }:=by
 by_cases hb:b∈fs
 .exact u.slot b ob q n hb hx
 .exact⟨ob.slots,u.keep b ob q n hb hx⟩
def Un.trans (a:Un fs ex H H1 h h1)(b:Un fs ex H1 H2 h1 h2):Un fs ex H H2 h h2 where
 keep:=λc ob q n hc hx=>b.keep c ob (a.keep c ob q n hc hx) (a.free c ob q n hx) hc hx
 slot:=λc ob q n hc hx=>by
  obtain⟨sl,e1⟩:=a.slot c ob q n hc hx;obtain⟨M,e2⟩:=b.slot c _ e1 (a.free c ob q n hx) hc hx;exact⟨M,e2⟩
 free:=λc ob q n hx=>by
  obtain⟨o',e1⟩:=a.there c ob q hx;exact b.free c o' e1 (a.free c ob q n hx) hx
 there:=λc ob q hx=>by
  obtain⟨o',e1⟩:=a.there c ob q hx;exact b.there c o' e1 hx
 tups:=λc xs q=>b.tups c xs (a.tups c xs q)
 frzs:=λc ob xs q=>b.frzs c ob xs (a.frzs c ob xs q)
 tbls:=λc ps q=>b.tbls c ps (a.tbls c ps q)
def Un.kept (k:∀b u,h.get? b=some u->h'.get? b=some u):Un fs ex H H h h':=
 ⟨λb ob q _ _ _=>k b ob q,λb ob q _ _ _=>⟨ob.slots,k b ob q⟩,λ_ _ _ n _=>n,λb ob q _=>⟨ob,k b ob q⟩,λ_ _ q=>q,λ_ _ _ q=>q,λ_ _ q=>q⟩
def Un.refl:Un fs ex H H h h:=Un.kept λ_ _ q=>q
def Un.laid (k:∀b u,h.get? b=some u->h'.get? b=some u)(hp:h.objs.size<=a)(hn:H a=none):Un fs ex H (upd H a o) h h' where
 keep:=λb u q _ _ _=>k b u q
 slot:=λb u q _ _ _=>⟨u.slots,k b u q⟩
 free:=λb u q n _=>by rw[a6 (vS (vQ (vX q) hp))];exact n
 there:=λb u q _=>⟨u,k b u q⟩
 tups:=λb xs q=>by rw[a6 (aN q hn)];exact q
 frzs:=λb u xs q=>by rw[a6 (aN q hn)];exact q
 tbls:=λb ps q=>by rw[a6 (aN q hn)];exact q
def Un.write (M:TL (H x))(he:e=x\/H e=some (.own x))(k:∀b u,b≠e->h.get? b=some u->h'.get? b=some u)(O:∃u,h'.get? e=some u):Un fs ex H (upd H x o) h h':=by
 have hx:∀b,H b=none->b≠x:=λb n z=>by subst z;rw[n]at M;exact M
 have hb:∀b,H b=none->b≠e:=λb n z=>by
  simp_all
 have hm:∀b u,H b=some u->¬TL (some u)->b≠x:=λb u q nm z=>by simp_all
 refine⟨λb u q n _ _=>k b u (hb b n) q,λb u q n _ _=>⟨u.slots,k b u (hb b n) q⟩,λb u q n _=>by rw[a6 (hx b n)];exact n,λb u q _=>?_,
  λb xs q=>by rw[a6 (hm b _ q λz=>z)];exact q,λb u xs q=>by rw[a6 (hm b _ q λz=>z)];exact q,λb ps q=>by rw[a6 (hm b _ q λz=>z)];exact q⟩
 grind
end
noncomputable def trk (h:Heap)(H:Hp):List Addr:=(List.range h.objs.size).filter λa=>(H a).isSome
def xK (h:Heap)(H:Hp):Heap:=PySem.W.hideAll h (trk h H)
def EU (h:Heap)(H:Hp):(xK h H).objs.size=h.objs.size:=PySem.W.hideAll_size _ _
theorem pL (e:h.get? b=some o)(n:H b=none):(xK h H).get? b=some o:=
 PySem.W.hideAll_get _ e λhm=>by
  have q:=(vN hm).2;simp_all
def L5 (e:(xK h H).get? b=some o):h.get? b=some o/\H b=none:=by
 have M:=PySem.W.of_hideAll _ e;refine⟨M,?_⟩;cases q:H b with
 |none=>rfl
 |some x=>
  simp_all[trk,vX,xK,PySem.W.hideAll_none]
noncomputable def L6 (g h:Heap)(L:Addr):AO:=(List.range h.objs.size).filterMap λa=>if a=L\/(g.get? a).isSome=true then none else (h.get? a).map λo=>(a,o)
def aj (g h:Heap)(L d:Addr):AO:=(L6 g h L).filter λp=>decide (p.1≠d)
structure Mod (K:Frag)(mg:Str->Option Value)(base:Heap):Prop where
 kin:K.In base
 glob:base.Ns mainGlobals mg
 blt:∃mb,base.Ns builtinsNs mb/\∀x:Str,x ≠ "__name__"->mb x=bootBuiltins x
 nolimit:base.NoLimit
 bmain:∃bm ob,mg "__builtins__" = some (.ref bm)/\bm≠builtinsNs/\base.get? bm=some ob/\ob.cls=.type "module"/\ob.dict=some builtinsNs/\ob.data=.plain
structure Cx where
 prog:Program
 w:World
 K:Frag
 mg:Str->Option Value
 base:Heap
 A:Around
 N:List Str
 s₀:Shared
 H₀:Hp
 env:Env
 outer:List Env
 stack:List Env
 ex:List Addr
 fn:Str->Bool
 calm:Bool
 pn:List (Addr×Obj)
 xe:Value->Shared->Prop
noncomputable def GX (l:List Env):List Addr:=l.filterMap (·.frame)
abbrev Cx.fs (X:Cx):List Addr:=GX X.outer
def Ll (sc:Scope)(x:Str):Prop:=sc.names.lookup x=some .local\/sc.names.lookup x=some .cell\/sc.names.lookup x=some .free
def Lm (sc:Scope)(x:Str):Prop:=sc.names.lookup x=some .local\/sc.names.lookup x=some .cell
def YH (env:Env)(h:Heap)(m:SV)(x:Str)(u:Value):Prop:=
 (env.kindOf x=some .local/\m x=some u)\/((env.kindOf x=some .cell\/env.kindOf x=some .free)/\∃c,env.cells.lookup x=some c/\h.IsCell c (some u))
abbrev wq {α:Type}(X:Cx):Sem α->(α->Shared->Prop)->(Value->Shared->Prop)->Shared->Prop:=wpAny (model X.prog X.w) X.A
structure Cx.Ok (X:Cx):Prop where
 mod:Mod X.K X.mg X.base
 kind:X.env.scope.kind=.function
 glob:X.env.globals=mainGlobals
 blt:X.env.builtins=builtinsNs
 above:X.s₀.z<=X.env.locals
 inj:∀x y c,X.env.cells.lookup x=some c->X.env.cells.lookup y=some c->x=y
 has:∀x,(X.env.kindOf x=some .cell\/X.env.kindOf x=some .free)->∃c,X.env.cells.lookup x=some c
 cab:∀x c,X.fn x=true->X.env.cells.lookup x=some c->X.s₀.z<=c
 hd:X.calm=true->X.A.handled=none
 frames:X.A.frames=some X.stack
 stk:X.stack=X.outer\/(X.stack=X.env::X.outer/\X.env.frame=some X.env.locals)
 exf:∀b∈X.ex,b≠X.env.locals/\∀x c,X.env.cells.lookup x=some c->c≠b
 bs:∀b o,X.base.get? b=some o->X.s₀.heap.get? b=some o/\X.H₀ b=none
 bsz:X.base.objs.size<=X.s₀.z
 noex:∀b o,X.base.get? b=some o->b∉X.ex
 exfs:∀b∈X.ex,b∉X.fs
 funs:X.s₀.heap.FunFrames X.base X.outer
 frf:∀b∈X.fs,X.H₀ b=none
structure Inv (X:Cx)(af:List (Addr×Obj))(σ:List (Option V))(H:Hp)(s:Shared):Prop where
 ok:X.Ok
 os:s.os=X.s₀.os
 bare:AllBare s.gens
 base:Un X.fs X.ex X.H₀ H X.s₀.heap s.heap
 loc:∃m,s.heap.Ns X.env.locals m/\∀(i:Nat)(x:Str)(v:V),X.N[i]? = some x->σ[i]? = some (some v)->Ll X.env.scope x->∃u,aD v u/\YH X.env s.heap m x u
 cell:∀x c,X.env.cells.lookup x=some c->∃v,s.heap.IsCell c v
 free:H X.env.locals=none
 freeC:∀x c,X.env.cells.lookup x=some c->H c=none
 pin:∀p∈X.pn++af,s.heap.get? p.1=some p.2/\H p.1=none/\p.1≠X.env.locals/\p.1∉X.fs/\∀v,p.2.data≠.cell v
 hok:kY X.prog X.w H s.heap
 len:σ.length=X.N.length
section
variable {X:Cx}{af:AO}{σ:List (Option V)}{H H':Hp}{s:Shared}{h':Heap}
def Cx.Ok.nofr (ok:X.Ok)(e:X.base.get? b=some o):b∉X.fs:=λhb=>by
 have:=(ok.funs.mem hb).1;simp_all
def Inv.bs (I:Inv X af σ H s):∀b o,X.base.get? b=some o->s.heap.get? b=some o/\H b=none:=λb o e=>
 ⟨I.base.keep b o (I.ok.bs b o e).1 (I.ok.bs b o e).2 (I.ok.nofr e) (I.ok.noex b o e),I.base.free b o (I.ok.bs b o e).1 (I.ok.bs b o e).2 (I.ok.noex b o e)⟩
def Inv.bk (I:Inv X af σ H s):∀b o,X.base.get? b=some o->s.heap.get? b=some o:=λb o e=>(I.bs b o e).1
def Inv.mod (I:Inv X af σ H s):Mod X.K X.mg X.base:=I.ok.mod
def Inv.kIn (I:Inv X af σ H s):X.K.In s.heap:=I.ok.mod.kin.keeps I.bk
def Inv.nolimit (I:Inv X af σ H s):s.heap.NoLimit:=I.ok.mod.nolimit.keeps I.bk
def Inv.lt (I:Inv X af σ H s):X.env.locals<s.z:=let ⟨_,hn,_⟩:=I.loc;hn.lt
def Inv.sz (I:Inv X af σ H s):X.s₀.z<=s.z:=vR I.ok.above (le_of_lt I.lt)
def Inv.nofs (I:Inv X af σ H s)(h:s.z<=a):a∉X.fs:=λhb=>by
 obtain⟨_,o,ho,_⟩:=I.ok.funs.mem hb;exact absurd (vQ (vX ho) (vR I.sz h)) (Nat.lt_irrefl _)
def Inv.cne (I:Inv X af σ H s):∀x c,X.env.cells.lookup x=some c->c≠X.env.locals:=λx c e z=>by
 refine cX λG g=>?_;obtain⟨v,o,ho,hd⟩:=I.cell x c e;obtain⟨m,⟨o',es,a,M,O,_⟩,_⟩:=I.loc;apply g;clear g;simp_all
def Inv.funs (I:Inv X af σ H s):s.heap.FunFrames X.base X.outer:=by
 have all:∀(l:List _),(∀b∈GX l,b∈X.fs)->X.s₀.heap.FunFrames X.base l->s.heap.FunFrames X.base l:=by
  intro l;induction l with
  |nil=>intro _ _;trivial
  |cons env r O=>
   intro hs hl;refine cX λG g=>?_;obtain⟨hk,⟨L,o,hf,hn,ho,hd⟩,hr⟩:=hl;have M:=hs L (by simp_all[GX]);obtain⟨sl,e⟩:=I.base.slot L o ho (I.ok.frf L M) M λz=>I.ok.exfs L z M;apply g;clear g;exact⟨hk,⟨L,_,hf,hn,e,hd⟩,O (λb hb=>hs b (by simp_all[GX])) hr⟩
 exact all _ (λ_ hb=>hb) I.ok.funs
def Inv.stack (I:Inv X af σ H s):s.heap.FunFrames X.base X.stack:=by
 rcases I.ok.stk with e|⟨e,hf⟩
 .rw[e];exact I.funs
 .rw[e];obtain⟨m,hn,_⟩:=I.loc;refine .cons (by rw[I.ok.kind];decide) hf hn ?_ I.funs;exact Heap.get?_none_of_le (vR I.ok.bsz I.ok.above)
def Inv.stkSub (I:Inv X af σ H s):∀b∈GX X.stack,b∈X.env.locals::X.fs:=λb hb=>by
 rcases I.ok.stk with e|⟨e,hf⟩
 .simp_all
 simp_all[GX]
def Inv.stkFree (I:Inv X af σ H s):∀b∈GX X.stack,H b=none:=λb hb=>by
 rcases vP (I.stkSub b hb)with e|hb
 .rw[e];exact I.free
 .obtain⟨_,o,ho,_⟩:=I.ok.funs.mem hb;exact I.base.free b o ho (I.ok.frf b hb) λz=>I.ok.exfs b z hb
def Inv.step {g':Array GenState}{t':Nat}{d':Drawn}{ch:List Addr}(I:Inv X af σ H s)
  (M:∀b∈ch,(b∈X.ex\/X.s₀.z<=b)/\b≠X.env.locals/\(∀x c,X.env.cells.lookup x=some c->c≠b)/\∀p∈X.pn++af,p.1≠b)
  (keep:∀b o,b≠X.env.locals->b∉X.fs->b∉ch->s.heap.get? b=some o->H b=none->h'.get? b=some o)
  (slot:∀b o,b≠X.env.locals->b∈X.fs->b∉ch->s.heap.get? b=some o->H b=none->∃sl,h'.get? b=some { o with slots:=sl }) (free:∀b o,b∉ch->s.heap.get? b=some o->H b=none->H' b=none)
  (there:∀b o,b∉ch->s.heap.get? b=some o->∃o',h'.get? b=some o')
  (tups:∀b xs,H b=some (.tup xs)->H' b=some (.tup xs)) (frzs:∀b o u,H b=some (.frz o u)->H' b=some (.frz o u)) (tbls:∀b q,H b=some (.tbl q)->H' b=some (.tbl q))
  (ns:∀m,s.heap.Ns X.env.locals m->h'.Ns X.env.locals m) (hok:kY X.prog X.w H' h') (t:AllBare g'):
  Inv X af σ H' { s with heap:=h',gens:=g',drawn:=d',toks:=t' }:=by
 have a:∀b o,X.s₀.heap.get? b=some o->b≠X.env.locals:=λb o e=>vS (vQ (vX e) I.ok.above);have g:∀b o,X.s₀.heap.get? b=some o->b∉X.ex->b∉ch:=λb o e hx hb=>by
  rcases (M b hb).1 with z|z
  .exact hx z
  .exact absurd (vQ (vX e) z) (Nat.lt_irrefl _)
 have O:∀x c,X.env.cells.lookup x=some c->∀v,s.heap.IsCell c v->h'.IsCell c v:=λx c e v ⟨o,ho,hd⟩=>by
  have f:c∉ch:=λz=>(M c z).2.2.1 x c e rr;by_cases hc:c∈X.fs
  .obtain⟨sl,q⟩:=slot c o (I.cne x c e) hc f ho (I.freeC x c e);exact⟨_,q,hd⟩
  .exact⟨o,keep c o (I.cne x c e) hc f ho (I.freeC x c e),hd⟩
 refine⟨I.ok,I.os,t,⟨λb o e n hb hx=>?_,λb o e n hb hx=>?_,λb o e n hx=>?_,λb o e hx=>?_,λb xs e=>tups b xs (I.base.tups b xs e),λb o xs e=>frzs b o xs (I.base.frzs b o xs e),λb ps e=>?_⟩,?_,λx c e=>?_,?_,λx c e=>?_,λp hp=>?_,hok,I.len⟩
 .exact keep b o (a b o e) hb (g b o e hx) (I.base.keep b o e n hb hx) (I.base.free b o e n hx)
 .obtain⟨sl,e1⟩:=I.base.slot b o e n hb hx;obtain⟨h,e2⟩:=slot b _ (a b o e) hb (g b o e hx) e1 (I.base.free b o e n hx);exact⟨h,e2⟩
 .obtain⟨o',e1⟩:=I.base.there b o e hx;exact free b o' (g b o e hx) e1 (I.base.free b o e n hx)
 .obtain⟨o',e1⟩:=I.base.there b o e hx;exact there b o' (g b o e hx) e1
 .exact tbls b _ (I.base.tbls b ps e)
 .obtain⟨m,hn,hl⟩:=I.loc;refine⟨m,ns m hn,λi x v e1 e2 y=>?_⟩;obtain⟨u,r,l⟩:=hl i x v e1 e2 y;refine⟨u,r,?_⟩;rcases l with l|⟨k,c,e,z⟩
  .exact .inl l
  .exact .inr ⟨k,c,e,O x c e _ z⟩
 .obtain⟨v,z⟩:=I.cell x c e;exact⟨v,O x c e v z⟩
 .obtain⟨m,⟨o,_,_,ho,_⟩,_⟩:=I.loc;exact free _ o (λz=>(M _ z).2.1 rr) ho I.free
 .obtain⟨v,o,ho,hd⟩:=I.cell x c e;exact free c o (λz=>(M c z).2.2.1 x c e rr) ho (I.freeC x c e)
 .obtain⟨e,n,ne,j,d⟩:=I.pin p hp;have f:p.1∉ch:=λz=>(M p.1 z).2.2.2 p hp rr;exact⟨keep p.1 p.2 ne j f e n,free p.1 p.2 f e n,ne,j,d⟩
def Inv.un {t':Nat}(I:Inv X af σ H s)(u:Un X.fs [] H H' s.heap h')(hok:kY X.prog X.w H' h'):Inv X af σ H' { s with heap:=h',toks:=t' }:=by
 obtain⟨m,⟨o,es,f,ho,r⟩,_⟩:=id I.loc;obtain⟨sl,a⟩:=u.any ho I.free X9;exact I.step (ch:=[]) (λ_ z=>nomatch z) (λb o _ hb _ e n=>u.keep b o e n hb X9) (λb o _ hb _ e n=>u.slot b o e n hb X9) (λb o _ e n=>u.free b o e n X9) (λb o _ e=>u.there b o e X9) u.tups u.frzs u.tbls (λg hm=>by
  obtain⟨o',O,c,M,d⟩:=hm;rw[ho]at M;cases M;exact⟨_,O,c,a,d⟩) hok I.bare
def Inv.call {g':Array GenState}{t':Nat}{d':Drawn}{ch:List Addr}(I:Inv X af σ H s)(u:Un (GX X.stack) ch H H' s.heap h')(hok:kY X.prog X.w H' h')(f:AllBare g')
  (M:∀b∈ch,(b∈X.ex\/X.s₀.z<=b)/\b≠X.env.locals/\(∀x c,X.env.cells.lookup x=some c->c≠b)/\∀p∈X.pn++af,p.1≠b):
  Inv X af σ H' { s with heap:=h',gens:=g',drawn:=d',toks:=t' }:=by
 obtain⟨m,⟨o,es,i,ho,r⟩,_⟩:=id I.loc;obtain⟨sl,a⟩:=u.any ho I.free λz=>(M _ z).2.1 rr;exact I.step M (λb o a hb hc e n=>u.keep b o e n (λz=>(vP (I.stkSub b z)).elim a hb) hc) (λb o _ _ hc e n=>u.any e n hc) (λb o hc e n=>u.free b o e n hc) (λb o hc e=>u.there b o e hc) u.tups u.frzs u.tbls (λj hm=>by
  obtain⟨o',d,g,O,h⟩:=hm;rw[ho]at O;cases O;exact⟨_,d,g,a,h⟩) hok f
def Inv.turned {t':Nat}{it:Addr}(I:Inv X af σ H s)(k:∀b o,b≠it->s.heap.get? b=some o->h'.get? b=some o)(hn:H it=none)(M:it≠X.env.locals)
  (h1:it∈X.ex\/X.s₀.z<=it) (h2:∀x c,X.env.cells.lookup x=some c->c≠it) (h3:∀p∈X.pn++af,p.1≠it):Inv X af σ H { s with heap:=h',toks:=t' }:=by
 refine I.step (ch:=[it]) (λb hb=>?_) (λb o _ _ hc e _=>k b o (λz=>hc (by simp[z])) e) (λb o _ _ hc e _=>⟨o.slots,k b o (λz=>hc (by simp[z])) e⟩) (λ_ _ _ _ n=>n)
  (λb o hc e=>⟨o,k b o (λz=>hc (by simp[z])) e⟩) (λ_ _ e=>e) (λ_ _ _ e=>e) (λ_ _ e=>e) (λm hm=>?_) (λb u e=>?_) I.bare
 .have e:=by simpa using hb
  subst e;exact⟨h1,M,h2,h3⟩
 .obtain⟨o,es,O,ho,r⟩:=hm;exact⟨o,es,O,k _ o (Ne.symm M) ho,r⟩
 .refine(I.hok b u e).stay (λc v hc q=>k c v ?_ q) (λ_ q=>q) (λ_ _ q=>q) λ_ _ _ q=>q;lia
def Inv.tok (I:Inv X af σ H s)(t:Nat):Inv X af σ H { s with toks:=t }:=I.un Un.refl I.hok
def Inv.kept (I:Inv X af σ H s)(k:∀b u,s.heap.get? b=some u->h'.get? b=some u):Inv X af σ H { s with heap:=h',toks:=t' }:=I.un (Un.kept k) (I.hok.kept k)
def Inv.laid (I:Inv X af σ H s)(k:∀b u,s.heap.get? b=some u->h'.get? b=some u)(hp:s.z<=a)(new:bj X.prog X.w (upd H a o) h' a o):
  Inv X af σ (upd H a o) { s with heap:=h',toks:=t' }:=I.un (Un.laid k hp (I.hok.fresh hp)) (I.hok.laid k hp new)
def Inv.write (I:Inv X af σ H s)(O:TL (H x))(he:e=x\/H e=some (.own x))(k:∀b u,b≠e->s.heap.get? b=some u->h'.get? b=some u)(M:∃u,h'.get? e=some u)
  (new:bj X.prog X.w (upd H x o) h' x o):Inv X af σ (upd H x o) { s with heap:=h',toks:=t' }:=I.un (Un.write O he k M) (I.hok.write O he k M new)
def Inv.pins_of (I:Inv X af σ H s)(h:∀p∈M,s.heap.get? p.1=some p.2/\H p.1=none/\p.1≠X.env.locals/\p.1∉X.fs/\∀v,p.2.data≠.cell v):Inv X M σ H s:=
 ⟨I.ok,I.os,I.bare,I.base,I.loc,I.cell,I.free,I.freeC,λp hp=>(mem_append.mp hp).elim (λz=>I.pin p (mem_append_left _ z)) (h p),I.hok,I.len⟩
def xL {N:LS}(M:N.Nodup){i j:Nat}{x:Str}(a:N[i]? = some x)(b:N[j]? = some x):i=j:=by
 obtain⟨h1,e1⟩:=vV a;obtain⟨h2,e2⟩:=vV b;exact(List.getElem_inj M).mp (e1.trans e2.symm)
def sZ {M:Model}{A:Around}{E:QV}{i:Nat}{x:Str}{v:V}{u:Value}{Q:Unit->Shared->Prop}(I:Inv X af σ H s)(G:X.N.Nodup)(hi:X.N[i]? = some x)(hx:Lm X.env.scope x)(r:aD v u)
  (h:∀s',Inv X af (σ.set i (some v)) H s'->(∃a,Heap.SameBut a s.heap s'.heap/\(a=X.env.locals\/X.env.cells.lookup x=some a))->Q () s') (hf:X.fn x=true\/X.env.scope.names.lookup x=some .local:=by first|exact .inl rr|exact .inr rr|assumption):wpAny M A (storeName X.env x u) Q E s:=by
 obtain⟨m,hn,hl⟩:=id I.loc;have L:(X.env.scope.kind == .class || (X.env.scope.kind == .module && X.env.locals != X.env.globals))=false:=by rw[I.ok.kind];rfl
 have J:i<σ.length:=by rw[I.len];exact(vV hi).1
 have cne:=I.cne;have O:∀ {a:Addr}{h':Heap},(∃o,s.heap.get? a=some o/\H a=none)->Heap.SameBut a s.heap h'->kY X.prog X.w H h':=λ{a h'} ha hs b ob e=>by
  obtain⟨_,_,P⟩:=ha;refine(I.hok b ob e).stay (λc l hc q=>(hs.2 c ?_).trans q) (λ_ q=>q) (λ_ _ q=>q) λ_ _ _ q=>q;lia
 rcases hx with hk|hk
 .refine wpAny_storeName_local hk hn (λh' R hs=>?_) L;obtain⟨S,_,_,T,_⟩:=id hn;refine h _ ⟨I.ok,I.os,I.bare,⟨λb o e n hb hx=>?_,λb o e n hb hx=>?_,I.base.free,λb o e hx=>?_,I.base.tups,I.base.frzs,I.base.tbls⟩,⟨_,R,λj y t e1 e2 B=>?_⟩,λy c e=>?_,I.free,I.freeC,λp hp=>?_,O ⟨S,T,I.free⟩ hs,by simpa using I.len⟩ ⟨_,hs,.inl rr⟩
  .exact(hs.2 b (vS (vQ (vX e) I.ok.above))).trans (I.base.keep b o e n hb hx)
  .obtain⟨sl,e1⟩:=I.base.slot b o e n hb hx;exact⟨sl,(hs.2 b (vS (vQ (vX e) I.ok.above))).trans e1⟩
  .obtain⟨o',e1⟩:=I.base.there b o e hx;exact⟨o',(hs.2 b (vS (vQ (vX e) I.ok.above))).trans e1⟩
  .by_cases hj:j=i
   .subst hj;rw[hi]at e1;cases e1;rw[getElem?_set_self J]at e2;cases e2
    exact⟨u,r,.inl ⟨hk,X9⟩⟩
   .rw[vB (Ne.symm hj)]at e2;obtain⟨u',C,q⟩:=hl j y t e1 e2 B;refine⟨u',C,?_⟩;rcases q with⟨k,e⟩|⟨k,c,e,z⟩
    .refine .inl ⟨k,?_⟩;have:y≠x:=λe=>hj (xL G e1 (e ▸ hi));simp[this,e]
    .exact .inr ⟨k,c,e,z.sameBut hs (cne y c e)⟩
  .obtain⟨l,z⟩:=I.cell y c e;exact⟨l,z.sameBut hs (cne y c e)⟩
  .obtain⟨e,n,ne,D,d⟩:=I.pin p hp;exact⟨(hs.2 p.1 ne).trans e,n,ne,D,d⟩
 .have F:X.fn x=true:=by
   simp_all<;>lia
  obtain⟨c,hc⟩:=I.ok.has x (.inl hk);obtain⟨l,z⟩:=I.cell x c hc;refine wpAny_storeName_cell I.ok.kind hk hc z (λh' K hs=>?_);obtain⟨oc,U,W⟩:=id z;refine h { s with heap:=h' } ⟨I.ok,I.os,I.bare,⟨λb o e n hb hx=>?_,λb o e n hb hx=>?_,I.base.free,λb o e hx=>?_,I.base.tups,I.base.frzs,I.base.tbls⟩,⟨m,hn.sameBut hs (Ne.symm (cne x c hc)),λj y t e1 e2 B=>?_⟩,λy g e=>?_,I.free,I.freeC,λp hp=>?_,O ⟨oc,U,I.freeC x c hc⟩ hs,by simpa using I.len⟩ ⟨c,hs,.inr hc⟩
  .exact(hs.2 b (vS (vQ (vX e) (I.ok.cab x c F hc)))).trans (I.base.keep b o e n hb hx)
  .obtain⟨sl,e1⟩:=I.base.slot b o e n hb hx;exact⟨sl,(hs.2 b (vS (vQ (vX e) (I.ok.cab x c F hc)))).trans e1⟩
  .obtain⟨o',e1⟩:=I.base.there b o e hx;exact⟨o',(hs.2 b (vS (vQ (vX e) (I.ok.cab x c F hc)))).trans e1⟩
  .by_cases hj:j=i
   .subst hj;rw[hi]at e1;cases e1;rw[getElem?_set_self J]at e2;cases e2
    exact⟨u,r,.inr ⟨.inl hk,c,hc,K⟩⟩
   .rw[vB (Ne.symm hj)]at e2;obtain⟨u',C,q⟩:=hl j y t e1 e2 B;refine⟨u',C,?_⟩;rcases q with q|⟨k,g,e,Y⟩
    .exact .inl q
    .refine .inr ⟨k,g,e,Y.sameBut hs ?_⟩;rintro rfl;exact hj (xL G e1 (I.ok.inj _ _ _ e hc ▸ hi))
  .by_cases f:g=c
   .subst f;exact⟨_,K⟩
   .obtain⟨Z,z2⟩:=I.cell y g e;exact⟨Z,z2.sameBut hs f⟩
  .obtain⟨e,n,ne,D,d⟩:=I.pin p hp;refine⟨(hs.2 p.1 ?_).trans e,n,ne,D,d⟩;grind
def xM {M:Model}{A:Around}{E:QV}{i:Nat}{x:Str}{v:V}{u:Value}{Q:Unit->Shared->Prop}(I:Inv X af σ H s)(O:X.N.Nodup)(hi:X.N[i]? = some x)(hx:Lm X.env.scope x)(r:aD v u)
  (h:∀s',Inv X af (σ.set i (some v)) H s'->Q () s') (hf:X.fn x=true\/X.env.scope.names.lookup x=some .local:=by first|exact .inl rr|exact .inr rr|assumption):wpAny M A (storeName X.env x u) Q E s:=
 sZ I O hi hx r (λs' a _=>h s' a) hf
def Inv.call' (I:Inv X af σ H s)(ho:s'.os=s.os)(u:Un (GX X.stack) ch H H' s.heap s'.heap)(hok:kY X.prog X.w H' s'.heap)(O:AllBare s'.gens)
  (M:∀b∈ch,(b∈X.ex\/X.s₀.z<=b)/\b≠X.env.locals/\(∀x c,X.env.cells.lookup x=some c->c≠b)/\∀p∈X.pn++af,p.1≠b):Inv X af σ H' s':=by
 obtain⟨h',g',d',t',o'⟩:=s';have e:=ho;subst e;exact I.call u hok O M
end
abbrev XK:=Value->Option Addr->Hp->Prop
abbrev St:=List (Option V)
abbrev VK:=V->Hp->Prop
abbrev TE:=St->Hp->VK->Prop
abbrev TT:=St->Hp->(Bool->Hp->Prop)->Prop
abbrev TA:=St->Hp->(List V->Hp->Prop)->Prop
structure Ends where
 nx:St->Hp->Prop
 rt:VK
 bk:St->Hp->Prop:=λ_ _=>False
 ct:St->Hp->Prop:=λ_ _=>False
abbrev TS:=Ends->St->Hp->Prop
def EP (X:Cx)(af:AO)(σ:St)(Q:VK)(u:Value)(s':Shared):Prop:=∃v H',Inv X af σ H' s'/\aD v u/\Q v H'
def TP (X:Cx)(af:AO)(σ:St)(Q:Bool->Hp->Prop)(b:Bool)(s':Shared):Prop:=∃H',Inv X af σ H' s'/\Q b H'
def AP (X:Cx)(af:AO)(σ:St)(Q:List V->Hp->Prop)(us:LU)(s':Shared):Prop:=∃vs H',Inv X af σ H' s'/\aL vs us/\Q vs H'
def SP (X:Cx)(af:AO)(D:Ends)(f:Flow)(s':Shared):Prop:=
 match f with
 |.next=>∃M H',Inv X af M H' s'/\D.nx M H'
 |.brk=>∃M H',Inv X af M H' s'/\D.bk M H'
 |.cont=>∃M H',Inv X af M H' s'/\D.ct M H'
 |.ret u=>∃v M H',Inv X af M H' s'/\aD v u/\D.rt v H'
def PE (X:Cx)(e:Expr)(t:TE):Prop:=
 ∀(af:AO)(s:Shared)(σ:St)(H:Hp)(Q:VK),Inv X af σ H s->t σ H Q->wq X (eval e X.env) (EP X af σ Q) X.xe s
def PT (X:Cx)(e:Expr)(t:TT):Prop:=
 ∀(af:AO)(s:Shared)(σ:St)(H:Hp)(Q:Bool->Hp->Prop),Inv X af σ H s->t σ H Q->wq X (isTrue e X.env (eval e X.env)) (TP X af σ Q) X.xe s
def PW (X:Cx)(e:Expr)(t:TT):Prop:=
 ∀(M:Sem Value)(af:AO)(s:Shared)(σ:St)(H:Hp)(Q:Bool->Hp->Prop),Inv X af σ H s->t σ H Q->wq X (isTrue e X.env M) (TP X af σ Q) X.xe s
def PW.pt (h:PW X e t):PT X e t:=h _
def PA (X:Cx)(es:QD)(t:TA):Prop:=
 ∀(M:Pos)(af:AO)(s:Shared)(σ:St)(H:Hp)(Q:List V->Hp->Prop),Inv X af σ H s->t σ H Q->wq X (spliced (backTo M (starEach es X.env))) (AP X af σ Q) X.xe s
def PS (X:Cx)(st:Stmt)(t:TS):Prop:=
 ∀(af:AO)(s:Shared)(σ:St)(H:Hp)(D:Ends),Inv X af σ H s->t D σ H->wq X (exec st X.env) (SP X af D) X.xe s
def tj (X:Cx)(st:List Stmt)(t:TS):Prop:=
 ∀(af:AO)(s:Shared)(σ:St)(H:Hp)(D:Ends),Inv X af σ H s->t D σ H->wq X (execs st X.env) (SP X af D) X.xe s
def bD {α:Type}{t:Sem α}{Q O:α->Shared->Prop}{M:Model}{A:Around}{E:QV}{s:Shared}(h:wpAny M A t Q E s)(b:∀a s,Q a s->O a s):wpAny M A t O E s:=wpAny_mono h b λ_ _ x=>x
section
variable {X:Cx}
def GY (i:Nat):TE:=λσ H Q=>∃v,σ[i]? = some (some v)/\Q v H
def tC (v:V):TE:=λ_ H Q=>Q v H
def jz (a:X.N[i]? = some x)(hv:Ll X.env.scope x)(hd:(x == ("__debug__" : Str))=false:=by decide)(O:(x == ("__classdict__" : Str))=false:=by decide):PE X (.Name x pos) (GY i):=by
 intro af s σ H Q I h;obtain⟨v,e,h⟩:=h;obtain⟨m,hn,hl⟩:=I.loc;obtain⟨u,r,l⟩:=hl i x v a e hv;have dJ:EP X _ σ Q u s:=⟨v,H,I,r,h⟩;rcases l with⟨hk,hm⟩|⟨hk,c,hc,M⟩
 .exact wpAny_Name (wpAny_loadName_local I.ok.kind hk hn hm dJ) hd
 .rcases hk with hk|hk
  .exact wpAny_Name (wpAny_loadName_cell I.ok.kind hk hc M dJ) hd
  .exact wpAny_Name (wpAny_loadName_free I.ok.kind hk hc M dJ O) hd
def PH {i j M}:PE X (.Constant (.int i) j M) (tC (.int i)):=λ_ _ _ H _ I h=>wpAny_Constant_int ⟨.int i,H,I.tok _,⟨_,rr⟩,h⟩
def TM {b j M}:PE X (.Constant (.bool b) j M) (tC (.bl b)):=λ_ _ _ H _ I h=>Constant_bool ⟨.bl b,H,I,rr,h⟩
def PJ {j M}:PE X (.Constant .none j M) (tC .non):=λ_ _ _ H _ I h=>Constant_none ⟨.non,H,I,rr,h⟩
def PK {x j M}:PE X (.Constant (.str x) j M) (tC (.str x)):=λ_ _ _ H _ I h=>Calls.Constant_str ⟨.str x,H,I.tok _,⟨_,rr⟩,h⟩
def Gl (X:Cx)(x:Str):Prop:=X.env.kindOf x=some .globalImplicit
def vj {E:QV}{af:AO}{s:Shared}{σ:St}{H:Hp}{x:Str}{u:Value}{M:Pos}{Q:QV}(I:Inv X af σ H s)(O:Gl X x)(hm:X.mg x=some u)(h:Q u s)
  (hd:(x == ("__debug__" : Str))=false:=by decide):wq X (eval (.Name x M) X.env) Q E s:=
 Calls.Name_function_global I.ok.kind O (Calls.loadGlobal_global (by rw[I.ok.glob];exact I.mod.glob.keeps I.bk) hm h) hd
def eE {E:QV}{af:AO}{s:Shared}{σ:St}{H:Hp}{x:Str}{u:Value}{M:Pos}{Q:QV}(I:Inv X af σ H s)(O:Gl X x)(hm:X.mg x=none)(hv:bootBuiltins x=some u)(h:Q u s)
  (hn:x ≠ "__name__":=by decide) (hd:(x == ("__debug__" : Str))=false:=by decide):wq X (eval (.Name x M) X.env) Q E s:=by
 obtain⟨mb,h1,h2⟩:=I.mod.blt;exact Calls.Name_function_global I.ok.kind O (Calls.loadGlobal_builtin (by rw[I.ok.glob];exact I.mod.glob.keeps I.bk) hm (by rw[I.ok.blt];exact h1.keeps I.bk) ((h2 x hn).trans hv) h) hd
def p0 (M:Gl X x)(hm:X.mg x=some u)(r:aD v u)(hd:(x == ("__debug__" : Str))=false:=by decide):PE X (.Name x O) (tC v):=
 λ_ _ _ H _ I h=>vj I M hm ⟨v,H,I,r,h⟩ hd
def L7 (M:Gl X x)(hm:X.mg x=none)(hv:bootBuiltins x=some u)(r:aD v u)(hn:x ≠ "__name__":=by decide)(hd:(x == ("__debug__" : Str))=false:=by decide):PE X (.Name x O) (tC v):=
 λ_ _ _ H _ I h=>eE I M hm hv ⟨v,H,I,r,h⟩ hn hd
def t2I (ta tb:TE)(k:Int->Int->Hp->Prop):St->Hp->Prop:=λσ H=>ta σ H λx M=>tb σ M λy H2=>∃i j,x=.int i/\y=.int j/\k i j H2
variable {a b:Expr}{ta tb:TE}{pos:Pos}
def PC (X:Cx)(op:CmpOp)(a b:Expr)(t:TE):Prop:=
 ∀(af:AO)(s:Shared)(σ:St)(H:Hp)(Q:VK),Inv X af σ H s->t σ H Q ->
  wq X (eval a X.env) (λv M=>wq X (eval b X.env) (λu O=>wq X (compareOp op v u) (EP X af σ Q) X.xe O) X.xe M) X.xe s
def TN (p:Int->Int->Bool)(ta tb:TE):TE:=λσ H Q=>t2I ta tb (λi j H2=>Q (.bl (p i j)) H2) σ H
abbrev YI:TE->TE->TE:=TN λi j=>decide (i<j)
abbrev YJ:TE->TE->TE:=TN λi j=>decide (j<i)
def tB (t:TE):TT:=λσ H Q=>t σ H λx M=>∃c,x=.bl c/\Q c M
def PL (h:PC X op a b t)(h1:behindInMarks op b=false:=by rfl):PE X (.Compare a [op] [b] pos) t:=λaf s σ H Q I hw=>wpAny_Compare1 (h _ s σ H Q I hw) h1
def PM {op:CmpOp}{t:TE}(h:PC X op a b t)(h1:behindInMarks op b=false:=by rfl):PT X (.Compare a [op] [b] pos) (tB t):=by
 intro af s σ H Q I hw;refine wpAny_isTrue_Compare1 (bD (h _ s σ H _ I hw) λv s1 h1=>bD h1 λu s2 h2=>bD h2 λc f ⟨x,M,O,r1,e⟩=>?_) h1;obtain⟨d,rfl,q⟩:=e;cases r1
 exact wpAny_truthy_bool ⟨M,O,q⟩
def PN {e:Expr}{t:TE}(h:PE X e t)(he:∀M,isTrue e X.env M=(do let v <-M;standAt e.pos;holding [v] (truthy v)):=by intro _;rfl):PT X e (tB t):=by
 intro af s σ H Q I hw;refine isTrue_plain (bD (h _ s σ H _ I hw) λv s1 ⟨x,O,c,r1,f⟩=>?_) (he _);obtain⟨d,rfl,q⟩:=f;cases r1
 exact wpAny_truthy_bool ⟨O,c,q⟩
variable {tA Yw:TT}{aj:QD}
def TQ (t u:TT):TT:=λσ H Q=>t σ H λc M=>if c=true then u σ M Q else Q false M
def tOr (t u:TT):TT:=λσ H Q=>t σ H λc M=>if c=true then Q true M else u σ M Q
def TR (t:TT):TT:=λσ H Q=>t σ H λc M=>Q (!c) M
def L8 (ha:PT X a tA):PW X (.BoolOp .And [a] pos) tA:=by
 intro M af s σ H Q I h;refine isTrue_and (bD (ha _ s σ H Q I h) λc s1 e=>?_);grind[isTrue_and_nil]
def PP (ha:PT X a tA):PW X (.BoolOp .Or [a] pos) tA:=by
 intro M af s σ H Q I h;refine isTrue_or (bD (ha _ s σ H Q I h) λc s1 e=>?_);grind[isTrue_or_nil]
def PQ (ha:PT X a tA)(hb:PW X (.BoolOp .And (b::aj) pos) Yw):PW X (.BoolOp .And (a::b::aj) pos) (TQ tA Yw):=by
 intro e af s σ H Q I h;refine isTrue_and (bD (ha _ s σ H _ I h) λc s1 ⟨M,O,d⟩=>?_);cases c with
 |true=>exact hb e _ s1 σ M Q O d
 |false=>exact⟨M,O,d⟩
def TU (ha:PT X a tA)(hb:PW X (.BoolOp .Or (b::aj) pos) Yw):PW X (.BoolOp .Or (a::b::aj) pos) (tOr tA Yw):=by
 intro e af s σ H Q I h;refine isTrue_or (bD (ha _ s σ H _ I h) λc s1 ⟨M,O,d⟩=>?_);cases c with
 |true=>exact⟨M,O,d⟩
 |false=>exact hb e _ s1 σ M Q O d
def PR (ha:PT X a tA):PT X (.UnaryOp .Not a pos) (TR tA):=by
 intro af s σ H Q I h;exact isTrue_not (ha _ s σ H _ I h)
def TV (ta tb:TE):TE:=λσ H Q=>ta σ H λx M=>∃c,x=.bl c/\if c=true then tb σ M Q else Q (.bl false) M
def YK (ta tb:TE):TE:=λσ H Q=>ta σ H λx M=>∃c,x=.bl c/\if c=true then Q (.bl true) M else tb σ M Q
def TW (ta:TE):TE:=λσ H Q=>ta σ H λx M=>∃c,x=.bl c/\Q (.bl (!c)) M
def PU {op}(h:PE X a t):PE X (.BoolOp op [a] pos) t:=λaf s σ H Q I hw=>BoolOp_one (h _ s σ H Q I hw)
def PX (ha:PE X a ta)(hb:PE X (.BoolOp .And (b::aj) pos) tb):PE X (.BoolOp .And (a::b::aj) pos) (TV ta tb):=by
 intro af s σ H Q I h;refine BoolOp_and (bD (ha _ s σ H _ I h) λv s1 ⟨x,O,d,r1,M⟩=>?_);obtain⟨c,rfl,M⟩:=M;cases r1
 refine wpAny_truthy_bool ?_;cases c with
 |true=>exact hb _ s1 σ O Q d M
 |false=>exact⟨.bl _,O,d,rr,M⟩
def TX (ha:PE X a ta)(hb:PE X (.BoolOp .Or (b::aj) pos) tb):PE X (.BoolOp .Or (a::b::aj) pos) (YK ta tb):=by
 intro af s σ H Q I h;refine BoolOp_or (bD (ha _ s σ H _ I h) λv s1 ⟨x,O,d,r1,M⟩=>?_);obtain⟨c,rfl,M⟩:=M;cases r1
 refine wpAny_truthy_bool ?_;cases c with
 |false=>exact hb _ s1 σ O Q d M
 |true=>exact⟨.bl _,O,d,rr,M⟩
def PY (ha:PE X a ta):PE X (.UnaryOp .Not a pos) (TW ta):=by
 intro af s σ H Q I h;refine UnaryOp_ (bD (ha _ s σ H _ I h) λv s1 ⟨x,O,d,r1,M⟩=>?_);obtain⟨c,rfl,M⟩:=M;cases r1
 exact not_of (wpAny_truthy_bool ⟨.bl _,O,d,rr,M⟩)
end
def fF (K:Frag)(H:Hp)(a:Addr)(xs:List V):Prop:=
 Rd H a (.lst xs) \/
  ∃(o:Obj)(its:AV)(n:Nat),K.lookup a=some o/\o.cls=.type "list"/\o.dict=none/\o.data=.seq its n/\its.size<=sizeLine/\aL xs its.toList
def gN (K:Frag)(H:Hp)(a:Addr)(xs:List V):Prop:=
 Rd H a (.tup xs) \/
  ∃(o:Obj)(its:AV)(n:Nat),K.lookup a=some o/\o.cls=.type "tuple"/\o.data=.seq its n/\its.size<=sizeLine/\aL xs its.toList
noncomputable def YL:Value->Option V
 |.none=>some .non
 |.bool b=>some (.bl b)
 |.int i _=>some (.int i)
 |.str x _=>some (.str x)
 |.bytes b _=>some (.byt b)
 |.float b _=>some (.flt b)
 |.ref a=>some (.ref a)
 |.type n=>some (.ty n)
 |_=>none
def aD.abs (r:aD x u):YL u=some x:=by
 cases x with
 |non=>cases r;rfl
 |bl _=>cases r;rfl
 |int _=>obtain⟨t,rfl⟩:=r;rfl
 |str _=>obtain⟨t,rfl⟩:=r;rfl
 |byt _=>obtain⟨t,rfl⟩:=r;rfl
 |flt _=>obtain⟨t,rfl⟩:=r;rfl
 |ref _=>cases r;rfl
 |ty _=>cases r;rfl
def aD.inj (r:aD x u)(q:aD y u):x=y:=vK (r.abs.symm.trans q.abs)
theorem aL.inj:∀ {xs ys:List V}{us:LU},aL xs us->aL ys us->xs=ys
 |_,_,_,.nil,.nil=>rr
 |_,_,_,.cons r t,.cons M t'=>by rw[r.inj M,aL.inj t t']
section
variable {X:Cx}{af:AO}{σ:St}{H:Hp}{s:Shared}{a:Addr}{xs ys:List V}
def fF.of {K:Frag}(h:H a=some (.lst xs)):fF K H a xs:=.inl (.inl h)
def gN.of {K:Frag}(h:H a=some (.tup xs)):gN K H a xs:=.inl (.inl h)
def Inv.list (I:Inv X af σ H s)(h:fF X.K H a xs):∃its:LU,aL xs its/\PlainL s.heap a its.toArray/\xs.length<=sizeLine:=by
 rcases h with h|⟨o,its,n,hk,hc,hd,hs,hz,r⟩
 .obtain⟨z,its,n,r,e⟩:=h.ok I.hok;exact⟨its,r,⟨_,n,e,rr,rr,rr⟩,z⟩
 .refine⟨its.toList,r,⟨o,n,I.kIn a o hk,hc,hd,by simpa using hs⟩,?_⟩;have e:=r.length;simp_all
def Inv.lisE {G:Prop}(I:Inv X af σ H s)(h:fF X.K H a xs)(k:∀its:LU,aL xs its->PlainL s.heap a its.toArray->xs.length<=sizeLine->G):G:=let⟨i,d,p,z⟩:=I.list h;k i d p z
def Inv.tuple (I:Inv X af σ H s)(h:gN X.K H a xs):∃its:LU,aL xs its/\IsTup s.heap a its.toArray/\xs.length<=sizeLine:=by
 rcases h with h|⟨o,its,n,hk,hc,hs,hz,r⟩
 .obtain⟨z,its,r,p⟩:=h.ok I.hok;exact⟨its,r,p,z⟩
 .refine⟨its.toList,r,⟨o,I.kIn a o hk,hc,n,by simpa using hs⟩,?_⟩;have e:=r.length;simp_all
def Inv.tupE {G:Prop}(I:Inv X af σ H s)(h:gN X.K H a xs)(k:∀its:LU,aL xs its->IsTup s.heap a its.toArray->xs.length<=sizeLine->G):G:=let⟨i,d,p,z⟩:=I.tuple h;k i d p z
def Inv.list_inj (I:Inv X af σ H s)(h:fF X.K H a xs)(h':fF X.K H a ys):xs=ys:=by
 refine cX λG g=>?_;obtain⟨its,r,⟨o,n,e,_,_,d⟩,_⟩:=I.list h;obtain⟨its',M,⟨o',b,O,_,_,d'⟩,_⟩:=I.list h';apply g;clear g;rw[e]at O;have:its=its':=by simp_all
 subst this;exact r.inj M
def Inv.tuple_inj (I:Inv X af σ H s)(h:gN X.K H a xs)(h':gN X.K H a ys):xs=ys:=by
 refine cX λG g=>?_;obtain⟨its,r,⟨o,e,_,n,d⟩,_⟩:=I.tuple h;obtain⟨its',M,⟨o',O,_,b,d'⟩,_⟩:=I.tuple h';apply g;clear g;rw[e]at O;have:its=its':=by simp_all
 subst this;exact r.inj M
end
noncomputable abbrev Cx.wish (X:Cx)(E:QV):Cx:={ X with xe:=E }
abbrev Cx.nox (X:Cx):Cx:=X.wish λ_ _=>False
def Cx.Ok.wish {X:Cx}(ok:X.Ok)(E:QV):(X.wish E).Ok:=
 ⟨ok.mod,ok.kind,ok.glob,ok.blt,ok.above,ok.inj,ok.has,ok.cab,ok.hd,ok.frames,ok.stk,ok.exf,ok.bs,ok.bsz,ok.noex,ok.exfs,ok.funs,ok.frf⟩
def Cx.Ok.unwish {X:Cx}{E:QV}(ok:(X.wish E).Ok):X.Ok:=
 ⟨ok.mod,ok.kind,ok.glob,ok.blt,ok.above,ok.inj,ok.has,ok.cab,ok.hd,ok.frames,ok.stk,ok.exf,ok.bs,ok.bsz,ok.noex,ok.exfs,ok.funs,ok.frf⟩
section
variable {X:Cx}{af:AO}{σ:St}{H:Hp}{s:Shared}{E:QV}
def Inv.wish (I:Inv X af σ H s)(E:QV):Inv (X.wish E) af σ H s:=⟨I.ok.wish E,I.os,I.bare,I.base,I.loc,I.cell,I.free,I.freeC,I.pin,I.hok,I.len⟩
def Inv.unwish (I:Inv (X.wish E) af σ H s):Inv X af σ H s:=⟨I.ok.unwish,I.os,I.bare,I.base,I.loc,I.cell,I.free,I.freeC,I.pin,I.hok,I.len⟩
def SP.unwish (h:SP (X.wish E) af D f s'):SP X af D f s':=by
 cases f with
 |next=>obtain⟨M,H',I,q⟩:=h;exact⟨M,H',I.unwish,q⟩
 |brk=>obtain⟨M,H',I,q⟩:=h;exact⟨M,H',I.unwish,q⟩
 |cont=>obtain⟨M,H',I,q⟩:=h;exact⟨M,H',I.unwish,q⟩
 |ret u=>obtain⟨v,M,H',I,r,q⟩:=h;exact⟨v,M,H',I.unwish,r,q⟩
def tj.nox {st:List Stmt}{t:TS}(h:tj X.nox st t):tj X st t:=λaf s σ H D I hw=>
 wpAny_mono (h _ s σ H D (I.wish _) hw) (λ_ _ q=>q.unwish) λ_ _ z=>False.elim z
end
section
variable {X:Cx}{st:Stmt}{aj:List Stmt}{t u:TS}{e:Expr}{te:TE}{pos:Pos}
def OA:TS:=λD σ H=>D.nx σ H
def TY (t u:TS):TS:=λD σ H=>t { D with nx:=u D } σ H
def L9:tj X [] OA:=λ_ _ σ H _ I h=>wpAny_execs_nil ⟨σ,H,I,h⟩
def GZ (h1:PS X st t)(h2:tj X aj u):tj X (st::aj) (TY t u):=by
 intro af s σ H D I h;refine wpAny_execs_cons (bD (h1 _ s σ H _ I h) λf s1 q=>?_);cases f with
 |next=>
  obtain⟨M,H',O,q⟩:=q;exact h2 _ s1 _ H' D O q
 |ret v=>exact q
 |brk=>exact q
 |cont=>exact q
def LA (h1:PS X st t):tj X [st] t:=by
 intro af s σ H D I h;refine wpAny_execs_cons (bD (h1 _ s σ H D I h) λf s1 q=>?_);cases f with
 |next=>exact wpAny_execs_nil q
 |ret v=>exact q
 |brk=>exact q
 |cont=>exact q
def TZ:TS:=λD σ H=>D.ct σ H
def xN:PS X (.Continue pos) TZ:=λ_ _ σ H _ I h=>wpAny_Continue ⟨σ,H,I,h⟩
def Inv.quiet (I:Inv X af σ H s):interactive X.env=false:=by simp[interactive,I.ok.kind]
def Ua (te:TE):TS:=λD σ H=>te σ H λ_ M=>D.nx σ M
def BZ (he:PE X e te)(hs:swapsWith e none pos.line X.env=pure false:=by rfl):PS X (.Expr e pos) (Ua te):=by
 intro af s σ H D I h;exact wpAny_Expr_any (bD (he _ s σ H _ I h) λv s1 ⟨x,M,O,r1,a⟩=>⟨σ,M,O,a⟩) I.quiet hs
def PZ (te:TE):TS:=λD σ H=>te σ H D.rt
def Ha (he:PE X e te):PS X (.Return (some e) pos) (PZ te):=by
 intro af s σ H D I h;exact wpAny_Return_some (bD (he _ s σ H _ I h) λv s1 ⟨x,M,O,r1,a⟩=>⟨x,σ,M,O,r1,a⟩)
def Ub (c:TT)(t u:TS):TS:=λD σ H=>c σ H λb M=>if b=true then t D σ M else u D σ M
def Uc {c:Expr}{a b:List Stmt}{M:TT}(hc:PT X c M)(ha:tj X a t)(hb:tj X b u):PS X (.If c a b pos) (Ub M t u):=by
 intro af s σ H D I h;refine wpAny_If (bD (hc _ s σ H _ I h) λd s1 ⟨O,f,g⟩=>?_);cases d with
 |true=>exact ha _ s1 σ O D f g
 |false=>exact hb _ s1 σ O D f g
end
abbrev TG:=V->St->Hp->(St->Hp->Prop)->Prop
abbrev Qa:=List V->St->Hp->(St->Hp->Prop)->Prop
def PG (X:Cx)(M:Expr)(t:TG):Prop:=
 ∀(af:AO)(s:Shared)(σ:St)(H:Hp)(v:V)(u:Value)(Q:St->Hp->Prop),Inv X af σ H s->aD v u->t v σ H Q ->
  wq X (assign M X.env u) (λ_ s'=>∃O H',Inv X af O H' s'/\Q O H') X.xe s
def Yn (X:Cx)(O:QD)(t:Qa):Prop:=
 ∀(af:AO)(s:Shared)(σ:St)(H:Hp)(vs:List V)(us:LU)(Q:St->Hp->Prop),Inv X af σ H s->aL vs us->t vs σ H Q ->
  wq X (assignInOrder ((assignEach O X.env).map (·.2)) us) (λ_ s'=>∃M H',Inv X af M H' s'/\Q M H') X.xe s
abbrev Qb:=V->V->V->Hp->(Hp->Prop)->Prop
def Ud (X:Cx)(t:Qb):Prop:=
 ∀(af:AO)(s:Shared)(σ:St)(H:Hp)(o i v:V)(M iv u:Value)(Q:Hp->Prop),Inv X af σ H s->aD o M->aD i iv->aD v u->t o i v H Q ->
  wq X (setItem M iv u) (λ_ s'=>∃H',Inv X af σ H' s'/\Q H') X.xe s
section
variable {X:Cx}{pos:Pos}
def i7 (i:Nat):TG:=λv σ H Q=>Q (σ.set i (some v)) H
def Ca (M:X.N.Nodup)(hi:X.N[i]? = some x)(hx:Lm X.env.scope x)(hf:X.fn x=true\/X.env.scope.names.lookup x=some .local:=by first|exact .inl rr|exact .inr rr|assumption):PG X (.Name x pos) (i7 i):=by
 intro af s σ H v u Q I r h;exact wpAny_assign_Name (xM I M hi hx r (λs' O=>⟨_,H,O,h⟩) hf)
def Ue:Qa:=λvs σ H Q=>vs=[]/\Q σ H
def OC (t:TG)(u:Qa):Qa:=λvs σ H Q=>∃v r,vs=v::r/\t v σ H λM H'=>u r M H' Q
def vk:Yn X [] Ue:=by
 intro af s σ H vs us Q I r h;obtain⟨e,h⟩:=h;exact assignInOrder_nil ⟨σ,H,I,h⟩
def iA {e:Expr}{es:QD}{t:TG}{u:Qa}(h1:PG X e t)(h2:Yn X es u)
  (hs:(assignEach (e::es) X.env).map (·.2)=assign e X.env::(assignEach es X.env).map (·.2):=by rfl):Yn X (e::es) (OC t u):=by
 intro af s σ H vs us Q I r h;obtain⟨v,d,e1,h⟩:=h;subst e1;cases r with
 |cons r M=>
  rw[hs];refine assignInOrder_cons (bD (h1 _ s σ H _ _ _ I r h) λ_ s1 ⟨O,a,b,c⟩=>?_);exact h2 _ s1 _ a _ _ Q b M c
def Hb (K:Frag)(n:Nat)(t:Qa):TG:=λv σ H Q=>∃a xs,v=.ref a/\gN K H a xs/\xs.length=n/\t xs σ H Q
def A6 (hc:X.calm=true)(h:Yn X es t)
  (hn:(assignEach es X.env).length=n:=by rfl) (M:(assignEach es X.env).findIdx? (·.1)=none:=by rfl):PG X (.Tuple es k pos) (Hb X.K n t):=by
 intro af s σ H v u Q I r hw;obtain⟨a,xs,e1,hq,hl,hw⟩:=hw;subst e1;cases r
 refine I.tupE hq λits rv O hz=>?_;refine assign_Tuple_tuple (I.ok.hd hc) O (by simp[hn,<-hl,rv.length]) M λh' hx=>?_;have c:=I.kept (t':=s.toks) λb o e=>hx b o (vS (vX e)) e;exact h _ _ σ H xs _ Q c (by simpa using rv) hw
def YM (to ti:TE)(t:Qb):TG:=λv σ H Q=>to σ H λo M=>ti σ M λi H2=>t o i v H2 λO=>Q σ O
def Qc {o i:Expr}{to ti:TE}{t:Qb}(ho:PE X o to)(hi:PE X i ti)(hs:Ud X t)
  (ha:∀v,assign (.Subscript o i pos) X.env v=(do
   let M <-holding [v] (eval o X.env)
   let iv <-holding [v,M] (eval i X.env)
   standAt pos
   holding [v,M,iv] (setItem M iv v)
   release [v,M,iv] []):=by intro _;rfl):PG X (.Subscript o i pos) (YM to ti t):=by
 intro af s σ H v u Q I r h;refine wX (wpAny_holding (bD (ho _ s σ H _ I h) λM s1 ⟨x,O,a,r1,b⟩=>?_));refine wX (wpAny_holding (bD (hi _ s1 σ O _ a b) λiv s2 ⟨y,H2,c,d,q2⟩=>?_));refine wX (wpAny_standAt (wX (wpAny_holding (bD (hs _ s2 σ H2 x y v M iv u _ c r1 d r q2) λ_ j ⟨e,f,g⟩=>?_))));exact wpAny_release ⟨σ,e,f,g⟩
def EV (M:TE)(g:TG):TS:=λD σ H=>M σ H λx O=>g x σ O D.nx
def Qd {tg e:Expr}{M:TE}{g:TG}(he:PE X e M)(O:PG X tg g)(hs:swapsWithSole [tg] e pos.line X.env=pure false:=by rfl)(hw:swappedStores [tg] e X.env=pure none:=by rfl)
  (h1:(assignEach [tg] X.env).map (·.2)=[assign tg X.env]:=by rfl):PS X (.Assign [tg] e pos) (EV M g):=by
 intro af s σ H D I h;refine wpAny_Assign_stores (bD (he _ s σ H _ I h) λv s1 ⟨x,a,b,r1,c⟩=>?_) hs hw;rw[h1];exact bD (O _ s1 σ a x v _ b r1 c) λ_ s2 q=>q
def vn {i:Nat}{x:Str}{e:Expr}{O:TE}{M:Pos}(a:X.N.Nodup)(hi:X.N[i]? = some x)(hx:Lm X.env.scope x)(he:PE X e O)(hs:swapsWith e (some (.Name x M)) pos.line X.env=pure false:=by rfl)(hf:X.fn x=true\/X.env.scope.names.lookup x=some .local:=by first|exact .inl rr|exact .inr rr|assumption):
  PS X (.Assign [.Name x M] e pos) (EV O (i7 i)):=by
 intro af s σ H D I h;refine wpAny_Assign_Name (bD (he _ s σ H _ I h) λv s1 ⟨y,b,c,r1,d⟩=>?_) hs;exact xM c a hi hx r1 (λs2 f=>⟨_,b,f,d⟩) hf
end
section
variable {X:Cx}{pos:Pos}
def Hd (c:TT)(tb:TS):TS:=λD σ H=>∃W:Nat->St->Hp->Prop,(∃m,W m σ H)/\∀m σ H,W m σ H ->
 c σ H λb O=>if b=true then ∃N:St->Hp->Prop,(∀M H',N M H'->∃a,a<m/\W a M H')/\tb { D with nx:=N,ct:=N,bk:=D.nx } σ O else D.nx σ O
def He {c:Expr}{M:List Stmt}{l:TT}{tb:TS}(hp:PassesOwn (model X.prog X.w) X.A X.env X.xe)(hc:PT X c l)(hb:tj X M tb):PS X (.While c M [] pos) (Hd l tb):=by
 intro af s σ H D I h;obtain⟨W,⟨q,r⟩,t⟩:=h;refine wpAny_While (codeAny_whileLoop (λn s'=>∃a H',Inv X _ a H' s'/\W n a H') ?_ q ⟨σ,H,I,r⟩);rintro n s1 ⟨g,m,u,x⟩;refine wpAny_passesOwn hp (bD (hc _ s1 _ m _ u (t n _ m x)) λb s2 ⟨H2,o,q2⟩=>?_);cases b with
 |true=>
  obtain⟨N,p,q2⟩:=q2;refine wpAny_passesOwn hp (bD (hb _ s2 _ H2 _ o q2) λf y e=>?_);cases f with
  |next=>
   obtain⟨O,d,i,n3⟩:=e;obtain⟨j,hm,k⟩:=p _ d n3;exact⟨j,hm,O,d,i,k⟩
  |cont=>
   obtain⟨O,d,i,n3⟩:=e;obtain⟨j,hm,k⟩:=p _ d n3;exact⟨j,hm,O,d,i,k⟩
  |brk=>exact e
  |ret v=>exact e
 |false=>
  exact wpAny_execs_nil ⟨g,H2,o,q2⟩
end
structure It where
 go:Nat->Hp->Prop
 yld:Nat->Hp->V->Hp->Prop
 stop:Nat->Hp->Prop
def lw (X:Cx)(af:AO)(H:Hp)(b:Addr):Prop:=
 H b=none/\b≠X.env.locals/\b∉X.fs/\(b∈X.ex\/X.s₀.z<=b)/\(∀x c,X.env.cells.lookup x=some c->c≠b)/\∀p∈X.pn++af,p.1≠b
def Inv.fpOk (I:Inv X af σ H s)(hb:s.z<=b)(hn:H' b=none):lw X af H' b:=by
 refine⟨hn,ne_of_gt (vQ I.lt hb),I.nofs hb,.inr (vR I.sz hb),λx c e z=>?_,λp hp z=>?_⟩
 .obtain⟨v,q⟩:=I.cell x c e;exact absurd (vQ q.lt (by rw[z];exact hb)) (Nat.lt_irrefl _)
 .exact absurd (vQ (vX (I.pin p hp).1) (by rw[z];exact hb)) (Nat.lt_irrefl _)
structure Turn (P:Program)(w:World)(K:Frag)(tg:Expr)(J:It)(fp:List Addr)(it:Addr)(tn:Nat->Heap->Prop):Prop where
 mem:it∈fp
 obj:∀i h,tn i h->∀b∈fp,∃o,h.get? b=some o/\∀v,o.data≠.cell v
 keep:∀i h h',tn i h->(∀b∈fp,∀o,h.get? b=some o->h'.get? b=some o)->tn i h'
 item:∀(X:Cx),X.prog=P->X.w=w->X.K=K->X.calm=true->∀(i:Nat)(af:List (Addr×Obj))(s:Shared)(σ:St)(H:Hp)(E:Value->Shared->Prop),Inv X af σ H s->(∀b∈fp,lw X af H b)->tn i s.heap->J.go i H ->
  wpAny (model P w) X.A (pyNext (.ref it)) (λr s1=>∃u,r=some u /\
   wpAny (model P w) X.A (letOwnedTupleGo tg (.ref it) u) (λ_ s2=>∃x H',Inv X af σ H' s2/\aD x u/\J.yld i H x H'/\tn (i+1) s2.heap/\∀b∈fp,H' b=none) E s1) E s
 done:∀(X:Cx),X.prog=P->X.w=w->X.K=K->X.calm=true->∀(i:Nat)(af:List (Addr×Obj))(s:Shared)(σ:St)(H:Hp)(E:Value->Shared->Prop),Inv X af σ H s->(∀b∈fp,lw X af H b)->tn i s.heap->J.stop i H ->
  wpAny (model P w) X.A (pyNext (.ref it)) (λr s1=>r=none/\Inv X af σ H s1) E s
 self:∀(A:Around)(i:Nat)(s:Shared)(Q:Value->Shared->Prop)(E:Value->Shared->Prop),tn i s.heap->Q (.ref it) s->wpAny (model P w) A (pyIter (.ref it)) Q E s
abbrev TI:=St->Hp->(It->Hp->Prop)->Prop
def PIE (X:Cx)(af:AO)(σ:St)(tg:Expr)(R:It->Hp->Prop)(M:Value)(s2:Shared):Prop:=
 ∃(it:Addr)(fp:List Addr)(tn:Nat->Heap->Prop)(J:It)(H':Hp),M=.ref it/\Inv X af σ H' s2/\Turn X.prog X.w X.K tg J fp it tn/\tn 0 s2.heap/\(∀b∈fp,lw X af H' b)/\R J H'
def PI (X:Cx)(tg M:Expr)(O:TI):Prop:=
 ∀(af:AO)(s:Shared)(σ:St)(H:Hp)(R:It->Hp->Prop),Inv X af σ H s->O σ H R ->
  wq X (eval M X.env) (λv s1=>wq X (pyIter v) (PIE X af σ tg R) X.xe s1) X.xe s
def tm (ho:s.heap.get? it=some o)(hc:o.cls=.type n)(hd:o.data=.fields vs)
    (hn:["enumerate","zip","dict_itemiterator","dict_reverseitemiterator","odict_iterator","itertools.zip_longest","itertools.pairwise"].contains n=false) (O:Q () s):wpAny M A (letOwnedTupleGo tg (.ref it) u) Q E s:=by
  cases tg<;>first
    |exact wY O
    | (cases u<;>first
        |exact wY O
        | (refine wX (wpAny_load ho ?_)
           rw[hc,hd]
           show wpAny M A (if(["enumerate","zip","dict_itemiterator","dict_reverseitemiterator","odict_iterator","itertools.zip_longest","itertools.pairwise"].contains n && vs[0]? == some _)=true then _ else _) Q E s
           rw[if_neg (by intro h;rw[hn]at h;cases h)]
           exact wY O))
noncomputable def Itl (K:Frag)(a:Addr):It:=
 ⟨λi H=>∃xs x,fF K H a xs/\xs[i]? = some x,λi H x H'=>H'=H/\∀xs,fF K H a xs->xs[i]? = some x,λi H=>∃xs,fF K H a xs/\xs.length<=i⟩
noncomputable def Itt (K:Frag)(a:Addr):It:=
 ⟨λi H=>∃xs x,gN K H a xs/\xs[i]? = some x,λi H x H'=>H'=H/\∀xs,gN K H a xs->xs[i]? = some x,λi H=>∃xs,gN K H a xs/\xs.length<=i⟩
noncomputable def Uf (lo:Int)(n:Nat):It:=⟨λi _=>i<n,λi H x H'=>H'=H/\x=.int (lo+i),λi _=>n<=i⟩
def EW {P:Program}{w:World}{K:Frag}{tg:Expr}(a it:Addr):Turn P w K tg (Itl K a) [it] it (λi h=>h.IsListIter it a i) where
 mem:=X9
 obj:=λi h st b hb=>by
  have e:=by simpa using hb
  obtain⟨o,e,c,d⟩:=st;simp_all
 keep:=λi h h' st k=>st.at λo e=>k it X9 o e
 item:=by
  intro X O hw f hc i af s σ H E I hf st g;subst O hw f;refine cX λG W=>?_;obtain⟨xs,x,hq,hx⟩:=g;refine I.lisE hq λits rv p hz=>?_;obtain⟨u,hu,ru⟩:=rv.get hx;obtain⟨j,f1,f2,l,m,n⟩:=hf it X9;apply W;clear W;refine wpAny_pyNext_list_item st p.isList (by simpa using hu) λh' M q=>?_;have r:=I.turned (t':=s.toks) (λb o hb e=>(q.2 b hb).trans e) j f1 l m n;obtain⟨o,e,c,d⟩:=id M;exact⟨u,rr,tm e c d H9 ⟨x,H,r,ru,⟨rr,λys hy=>by rw[I.list_inj hy hq];exact hx⟩,M,λb hb=>(hf b hb).1⟩⟩
 done:=by
  intro X O hw f hc i af s σ H E I hf st g;subst O hw f;refine cX λG W=>?_;obtain⟨xs,hq,hx⟩:=g;refine I.lisE hq λits rv p hz=>?_;obtain⟨j,f1,f2,l,m,n⟩:=hf it X9;apply W;clear W;have hl:=rv.length;exact wpAny_pyNext_list_end (I.ok.hd hc) st p.isList I9 λh' t=>⟨rr,I.turned (λb o hb e=>t b o hb e) j f1 l m n⟩
 self:=λ_ _ _ _ _ st h=>wpAny_pyIter_listiter st h
def A7 {P:Program}{w:World}{K:Frag}{tg:Expr}(a it:Addr):Turn P w K tg (Itt K a) [it] it (λi h=>h.IsTupleIter it a i) where
 mem:=X9
 obj:=λi h st b hb=>by
  have e:=by simpa using hb
  obtain⟨o,e,c,d⟩:=st;simp_all
 keep:=λi h h' st k=>st.at λo e=>k it X9 o e
 item:=by
  intro X O hw f hc i af s σ H E I hf st g;subst O hw f;refine cX λG W=>?_;obtain⟨xs,x,hq,hx⟩:=g;refine I.tupE hq λits rv p hz=>?_;obtain⟨u,hu,ru⟩:=rv.get hx;obtain⟨j,f1,f2,l,m,n⟩:=hf it X9;apply W;clear W;refine wpAny_pyNext_tuple_item st (show s.heap.IsTuple a _ from p) (by simpa using hu) λh' M q=>?_;have r:=I.turned (t':=s.toks) (λb o hb e=>(q.2 b hb).trans e) j f1 l m n;obtain⟨o,e,c,d⟩:=id M;exact⟨u,rr,tm e c d H9 ⟨x,H,r,ru,⟨rr,λys hy=>by rw[I.tuple_inj hy hq];exact hx⟩,M,λb hb=>(hf b hb).1⟩⟩
 done:=by
  intro X O hw f hc i af s σ H E I hf st g;subst O hw f;refine cX λG W=>?_;obtain⟨xs,hq,hx⟩:=g;refine I.tupE hq λits rv p hz=>?_;obtain⟨j,f1,f2,l,m,n⟩:=hf it X9;apply W;clear W;have hl:=rv.length;exact wpAny_pyNext_tuple_end (I.ok.hd hc) st (show s.heap.IsTuple a _ from p) I9 λh' t=>⟨rr,I.turned (λb o hb e=>t b o hb e) j f1 l m n⟩
 self:=λ_ _ _ _ _ st h=>wpAny_pyIter_tupleiter st h
def A8 {P:Program}{w:World}{K:Frag}{tg:Expr}(it:Addr)(lo:Int)(n:Nat):Turn P w K tg (Uf lo n) [it] it (λi h=>IsRangeIter h it (lo+(i:Nat)*1) ((n:Int) - (i:Nat)) 1) where
 mem:=X9
 obj:=λi h st b hb=>by
  simp_all
 keep:=λi h h' st k=>k it X9 _ st
 item:=by
  intro X g hw j hc i af s σ H E I hf st O;subst g hw j;obtain⟨a,f1,f2,c,d,f⟩:=hf it X9;have W:=Walks.range (prog:=X.prog) (w:=X.w) (I.ok.hd hc) it lo 1 n;refine W.item i s _ _ O st λv h' tk hv M l=>?_;obtain⟨t,rfl⟩:=hv;have m:Inv X _ σ H { s with heap:=h',toks:=tk }:=I.turned (λb o hb e=>l b o (by simpa using hb) e) a f1 c d f;refine⟨_,rr,tm M rr rr H9 ⟨.int _,H,m,⟨t,?_⟩,⟨rr,rr⟩,M,λb hb=>(hf b hb).1⟩⟩;simp
 done:=by
  intro X g hw j hc i af s σ H E I hf st O;obtain⟨a,f1,f2,c,d,f⟩:=hf it X9;exact wpAny_pyNext_range_end (I.ok.hd hc) st (by have:n<=i:=O;lia) λh' p=>⟨rr,I.turned (λb o hb e=>p b o hb e) a f1 c d f⟩
 self:=λ_ _ _ _ _ st h=>wpAny_pyIter_rangeiter st h
section
variable {X:Cx}{tg:Expr}
def Ug (K:Frag)(tl:TE):TI:=λσ H R=>tl σ H λx M=>∃a,x=.ref a/\(∃xs,fF K M a xs)/\R (Itl K a) M
def YN (K:Frag)(tl:TE):TI:=λσ H R=>tl σ H λx M=>∃a,x=.ref a/\(∃xs,gN K M a xs)/\R (Itt K a) M
def LB {l:Expr}{tl:TE}(hl:PE X l tl):PI X tg l (Ug X.K tl):=by
 intro af s σ H R I h;refine bD (hl _ s σ H _ I h) λv s1 ⟨x,O,M,r1,c⟩=>?_;obtain⟨a,e,⟨xs,hq⟩,q⟩:=c;subst e;cases r1
 refine M.lisE hq λits rv p hz=>?_;refine wpAny_pyIter_list p.isList ?_;refine⟨s1.z,[s1.z],_,_,O,rr,M.kept λb o e=>vZ _ e,EW a _,⟨_,vY _ rr,rr,rr⟩,λb hb=>?_,q⟩;have e:=by simpa using hb
 subst e;exact M.fpOk (vT _) (M.hok.fresh (vT _))
def Qe {l:Expr}{tl:TE}(hl:PE X l tl):PI X tg l (YN X.K tl):=by
 intro af s σ H R I h;refine bD (hl _ s σ H _ I h) λv s1 ⟨x,O,M,r1,c⟩=>?_;obtain⟨a,e,⟨xs,hq⟩,q⟩:=c;subst e;cases r1
 refine M.tupE hq λits rv p hz=>?_;refine wpAny_pyIter_tuple (show s1.heap.IsTuple a _ from p) ?_;refine⟨s1.z,[s1.z],_,_,O,rr,M.kept λb o e=>vZ _ e,A7 a _,⟨_,vY _ rr,rr,rr⟩,λb hb=>?_,q⟩;have e:=by simpa using hb
 subst e;exact M.fpOk (vT _) (M.hok.fresh (vT _))
def xO {af:AO}{σ:St}{H:Hp}{s:Shared}{R:It->Hp->Prop}{E:QV}{lo hi:Int}{t u v:Tok}{tk:Nat}(I:Inv X af σ H s)(h1 : -(2 ^ 62)<=lo)(h2:lo<2 ^ 62)(h3 : -(2 ^ 62)<=hi)(h4:hi<2 ^ 62)
  (q:R (Uf lo (hi - lo).toNat) H):wq X (pyIter (.ref s.z)) (PIE X af σ tg R) E { s with heap:=s.heap.push { cls:=.type "range",data:=.fields #[.int lo t,.int hi u,.int 1 v] },toks:=tk }:=by
 refine wpAny_pyIter_range (IsRange.new ..) (small_one h1 h2 h3 h4) ?_;have M:Inv X _ σ H { s with heap:=s.heap.push { cls:=.type "range",data:=.fields #[.int lo t,.int hi u,.int 1 v] },toks:=tk }:=I.kept λb o e=>vZ _ e;refine⟨(s.heap.push _).objs.size,[(s.heap.push _).objs.size],_,_,H,rr,
  M.kept λb o e=>vZ _ e,A8 _ lo _,?_,λb hb=>?_,q⟩
 .have e1:lo+((0:Nat):Int)*1=lo:=X9
  have e2:(((hi - lo).toNat:Nat):Int) - ((0:Nat):Int)=Builtin.Range.rangeSize lo hi 1:=by rw[rangeSize_one];split<;>lia
  rw[e1,e2];exact vY _ rr
 .have e:b=(s.heap.push { cls:=.type "range",data:=.fields #[.int lo t,.int hi u,.int 1 v] }).objs.size:=by simpa using hb
  subst e;exact M.fpOk (vT _) (M.hok.fresh (vT _))
def Uh (ta:TA):TI:=λσ H R=>ta σ H λvs M=>∃j:Int,vs=[.int j]/\-(2 ^ 62)<=j/\j<2 ^ 62/\R (Uf 0 j.toNat) M
def Ui (ta:TA):TI:=λσ H R=>ta σ H λvs M=>∃i j:Int,vs=[.int i,.int j]/\(-(2 ^ 62)<=i/\i<2 ^ 62/\-(2 ^ 62)<=j/\j<2 ^ 62)/\R (Uf i (j - i).toNat) M
def EX {a:Expr}{ta:TA}{p M:Pos}(b:Gl X "range")(hm:X.mg "range" = none)(ha:PA X [a] ta)(hs:starEach [a] X.env=[(false,eval a X.env)]:=by rfl):PI X tg (.Call (.Name "range" p) [a] [] M) (Uh ta):=by
 intro af s σ H R I h;refine Call_ (eE I b hm boot_range (PyProof.Rows.callWith_type1 (bD (ha _ _ s σ H _ I h) λus s1 ⟨vs,f,c,r1,O⟩=>?_) hs rr));obtain⟨j,e,O,q2,q⟩:=O;subst e;cases r1 with
 |cons r d=>
  cases d
  obtain⟨t,rfl⟩:=r;exact call_range_1 (xO c N9 N9 O q2 (by simpa using q))
def EY {a b:Expr}{ta:TA}{p O:Pos}(f:Gl X "range")(hm:X.mg "range" = none)(ha:PA X [a,b] ta)(hs:starEach [a,b] X.env=[(false,eval a X.env),(false,eval b X.env)]:=by rfl)(M:starEach [b] X.env=[(false,eval b X.env)]:=by rfl):
  PI X tg (.Call (.Name "range" p) [a,b] [] O) (Ui ta):=by
 intro af s σ H R I h;refine Call_ (eE I f hm boot_range (PyProof.Rows.callWith_type1 (bD (ha _ _ s σ H _ I h) λus s1 ⟨vs,n,g,r1,c⟩=>?_) (by rw[hs,M]) (by rw[M];rfl)));obtain⟨i,j,e,⟨c,q2,k,l⟩,q⟩:=c;subst e;cases r1 with
 |cons r d=>
  cases d with
  |cons m d=>
   cases d
   obtain⟨t,rfl⟩:=r;obtain⟨t',rfl⟩:=m;exact call_range_2 (xO g c q2 k l q)
def Qf (b:TI)(g:TG)(tb:TS):TS:=λD σ H=>b σ H λJ c=>∃W:Nat->Nat->St->Hp->Prop,(∃m,W 0 m σ c)/\∀i m σ H,W i m σ H ->
 (J.stop i H/\D.nx σ H)\/(J.go i H/\∃N:St->Hp->Prop,(∀M H',N M H'->∃a,a<m/\W (i+1) a M H')/\∀x H',J.yld i H x H'->g x σ H' λO H2=>tb { D with nx:=N,ct:=N,bk:=D.nx } O H2)
def pM (fp:List Addr)(h:Heap):AO:=fp.filterMap λb=>(h.get? b).map λo=>(b,o)
def iR {fp:List Addr}{h:Heap}{b:Addr}{o:Obj}(hb:b∈fp)(e:h.get? b=some o):(b,o)∈pM fp h:=mem_filterMap.mpr ⟨b,hb,by rw[e];rfl⟩
def EZ (hp:p∈pM fp h):p.1∈fp/\h.get? p.1=some p.2:=by
 obtain⟨b,hb,e⟩:=mem_filterMap.mp hp;simp_all<;>lia
def Inv.pinned (I:Inv X af σ H s)(hf:∀b∈fp,lw X af H b)(ho:∀b∈fp,∃o,s.heap.get? b=some o/\∀v,o.data≠.cell v):Inv X (af++pM fp s.heap) σ H s:=
 I.pins_of λp hp=>(mem_append.mp hp).elim (λz=>I.pin p (mY _ z)) λz=>by
  obtain⟨hb,e⟩:=EZ z;obtain⟨M,f1,f2,_⟩:=hf _ hb;grind
def Inv.unpinned (I:Inv X (af++pl) σ H s):Inv X af σ H s:=I.pins_of λp hp=>I.pin p (mY _ (mem_append_left _ hp))
def Hf {O:Expr}{l:List Stmt}{G:TI}{g:TG}{tb:TS}{y:Pos}(hp:PassesOwn (model X.prog X.w) X.A X.env X.xe)(hc:X.calm=true)(hi:PI X tg O G)(R:PG X tg g)(hb:tj X l tb)
  (hs:∀x,foldedSetIterable O X.env x=pure x:=by intro _;rfl):PS X (.For tg O l [] y) (Qf G g tb):=by
 intro af s σ H D I h;refine wpAny_For (bD (hi af s σ H _ I h) λv s1 h1=>bD h1 λS s2 h2=>?_) hs;refine cX λr S=>?_;obtain⟨it,fp,tn,J,H2,e,U,T,V,f2,W,⟨Y,Z⟩,KY⟩:=h2;apply S;subst e
 -- what stays true of the iterator's objects through the loop
 have z:∀ {H':Hp},(∀b∈fp,H' b=none)->∀b∈fp,lw X af H' b:=λhn b hb=>⟨hn b hb,(f2 b hb).2⟩;refine codeAny_forLoop_any (λn s'=>∃i a H',Inv X af a H' s'/\tn i s'.heap/\(∀b∈fp,H' b=none)/\W i n a H') ?_ Y ⟨0,σ,H2,U,V,λb hb=>(f2 b hb).1,Z⟩;rintro n K ⟨i,c,t,L,P,q,w3⟩;rcases KY i n c t w3 with⟨stop,qn⟩|⟨go,N,hN,step⟩
 .refine wpAny_passesOwn hp (bD (T.done X rr rr rr hc i af K c t X.xe L (z q) P stop) λr s4 ⟨hr,I4⟩=>?_);subst hr;exact wpAny_execs_nil ⟨c,t,I4,qn⟩
 .refine wpAny_passesOwn hp (bD (T.item X rr rr rr hc i af K c t X.xe L (z q) P go) λr s4 ⟨u,hr,h4⟩=>?_);subst hr;refine wpAny_passesOwn hp (bD h4 λ_ s5 ⟨x,Q,I5,r5,y5,B,ZZ⟩=>?_);have C:=I5.pinned (z ZZ) (T.obj _ _ B);refine wpAny_passesOwn hp (bD (R _ s5 c Q x u _ C r5 (step x Q y5)) λ_ s6 ⟨E,H6,I6,q6⟩=>?_);refine wpAny_passesOwn hp (bD (hb _ s6 E H6 _ I6 q6) λf F p=>?_);have again:∀ {M:St}{j:Hp},Inv X _ M j F->N M j->∃m,m<n/\∃i a H',Inv X af a H' F/\tn i F.heap/\(∀b∈fp,H' b=none)/\W i m a H':=λ{M j} k n7=>by
   obtain⟨m',hm,w7⟩:=hN M j n7;refine⟨m',hm,i+1,M,j,k.unpinned,T.keep _ _ _ B λb hb o e=>(k.pin (b,o) (mY _ (mY _ (iR hb e)))).1,λb hb=>?_,w7⟩;obtain⟨o,e,d⟩:=T.obj _ _ B b hb;exact(k.pin (b,o) (mY _ (mY _ (iR hb e)))).2.1
  cases f with
  |next=>obtain⟨M,j,k,n7⟩:=p;exact again k n7
  |cont=>obtain⟨M,j,k,n7⟩:=p;exact again k n7
  |brk=>obtain⟨M,j,k,p⟩:=p;exact⟨M,j,k.unpinned,p⟩
  |ret v=>obtain⟨x7,M,j,k,r7,p⟩:=p;exact⟨x7,M,j,k.unpinned,r7,p⟩
end
abbrev R2:=V->V->Hp->VK->Prop
def c8 (X:Cx)(f:Value->Value->Sem Value)(r:R2):Prop:=
 ∀(af:AO)(s:Shared)(σ:St)(H:Hp)(x y:V)(v u:Value)(Q:VK),Inv X af σ H s->aD x v->aD y u->r x y H Q ->
  wq X (f v u) (EP X af σ Q) X.xe s
def Uj (X:Cx)(f:Value->Sem Value)(r:V->Hp->VK->Prop):Prop:=
 ∀(af:AO)(s:Shared)(σ:St)(H:Hp)(x:V)(v:Value)(Q:VK),Inv X af σ H s->aD x v->r x H Q ->
  wq X (f v) (EP X af σ Q) X.xe s
def bu (X:Cx)(f:Value)(r:List V->Hp->VK->Prop):Prop:=
 ∀(af:AO)(s:Shared)(σ:St)(H:Hp)(xs:List V)(us:LU)(Q:VK),Inv X af σ H s->aL xs us->r xs H Q ->
  wq X (call f us) (EP X af σ Q) X.xe s
def Yo (r:R2)(ta tb:TE):TE:=λσ H Q=>ta σ H λx M=>tb σ M λy H2=>r x y H2 Q
def tUn (r:V->Hp->VK->Prop)(ta:TE):TE:=λσ H Q=>ta σ H λx M=>r x M Q
def rI (C:Int->Int->Prop)(g:Int->Int->V):R2:=λx y H Q=>∃i j,x=.int i/\y=.int j/\C i j/\Q (g i j) H
def Ln (g:Int->Int->V):R2:=λx y H Q=>∃i j,x=.int i/\y=.int j/\Q (g i j) H
def rU (g:Int->V):V->Hp->VK->Prop:=λx H Q=>∃i,x=.int i/\Q (g i) H
section
variable {X:Cx}{a b c:Expr}{ta tb tc:TE}{pos:Pos}
def Qg (ha:PE X a ta)(hb:PE X b tb){af:AO}{s:Shared}{σ:St}{H:Hp}{R:V->V->Hp->Prop}(I:Inv X af σ H s)
  (h:ta σ H λx d=>tb σ d λy H2=>R x y H2) {Q:QV}{f:Value->Value->Sem Value}
  (hf:∀v u s2 x y H2,Inv X af σ H2 s2->aD x v->aD y u->R x y H2->wq X (f v u) Q X.xe s2):
  wq X (eval a X.env) (λv M=>wq X (eval b X.env) (λu O=>wq X (f v u) Q X.xe O) X.xe M) X.xe s:=by
 refine bD (ha _ s σ H _ I h) λv s1 ⟨x,d,e,r1,g⟩=>?_;refine bD (hb _ s1 σ d _ e g) λu s2 ⟨y,H2,i,j,q2⟩=>?_;exact hf v u s2 x y H2 i r1 j q2
def Uk {op:Operator}{r:R2}(ho:c8 X (binaryOp op) r)(ha:PE X a ta)(hb:PE X b tb):PE X (.BinOp a op b pos) (Yo r ta tb):=by
 intro af s σ H Q I h;exact wpAny_BinOp (Qg ha hb I h λv u s2 x y H2 M O d q=>ho _ s2 σ H2 x y v u Q M O d q)
def Ul {op:UnaryOp}{r:V->Hp->VK->Prop}(ho:Uj X (unaryOp op) r)(ha:PE X a ta):PE X (.UnaryOp op a pos) (tUn r ta):=by
 intro af s σ H Q I h;exact UnaryOp_ (bD (ha _ s σ H _ I h) λv s1 ⟨x,M,O,r1,d⟩=>ho _ s1 σ M x v Q O r1 d)
def Um {f:Value->Value->Sem Value}{C:Int->Int->Prop}{g:Int->Int->Int}
  (rule:∀(i j:Int)(t u:Tok)(s:Shared)(Q:QV)(E:QV),C i j->Q (.int (g i j) s.toks) { s with toks:=s.toks+1 }->wq X (f (.int i t) (.int j u)) Q E s):
  c8 X f (rI C λi j=>.int (g i j)):=by
 intro af s σ H x y v u Q I M O h;obtain⟨i,j,rfl,rfl,hc,q⟩:=h;obtain⟨t,rfl⟩:=M;obtain⟨t',rfl⟩:=O;exact rule i j t t' s _ _ hc ⟨.int _,H,I.tok _,⟨_,rr⟩,q⟩
def Qh {f:Value->Value->Sem Value}{g:Int->Int->Int}
  (rule:∀(i j:Int)(t u:Tok)(s:Shared)(Q:QV)(E:QV),Q (.int (g i j) s.toks) { s with toks:=s.toks+1 }->wq X (f (.int i t) (.int j u)) Q E s):
  c8 X f (Ln λi j=>.int (g i j)):=by
 intro af s σ H x y v u Q I M O h;obtain⟨i,j,rfl,rfl,q⟩:=h;obtain⟨t,rfl⟩:=M;obtain⟨t',rfl⟩:=O;exact rule i j t t' s _ _ ⟨.int _,H,I.tok _,⟨_,rr⟩,q⟩
def LC {f:Value->Value->Sem Value}{g:Int->Int->Bool}
  (rule:∀(i j:Int)(t u:Tok)(s:Shared)(Q:QV)(E:QV),Q (.bool (g i j)) s->wq X (f (.int i t) (.int j u)) Q E s):
  c8 X f (Ln λi j=>.bl (g i j)):=by
 intro af s σ H x y v u Q I M O h;obtain⟨i,j,rfl,rfl,q⟩:=h;obtain⟨t,rfl⟩:=M;obtain⟨t',rfl⟩:=O;exact rule i j t t' s _ _ ⟨.bl _,H,I,rr,q⟩
def Uo (i j:Int):Prop:=0<j/\j<1073741824
def Ur (i j:Int):Prop:=0<=j/\j<=1000000/\i.natAbs<2 ^ 64
def LF (i j:Int):Prop:=(-(2 ^ 64)<i/\i<2 ^ 64)\/(-(2 ^ 64)<j/\j<2 ^ 64)
def LF.ok (h:LF i j):IntMulOk i j:=by
 rcases h with⟨h1,h2⟩|⟨h1,h2⟩
 .exact .of_left (intBits_le_64 h1 h2)
 .exact .of_right (intBits_le_64 h1 h2)
def Qi:c8 X (binaryOp .Add) (Ln λi j=>.int (i+j)):=Qh λ_ _ _ _ _ _ _ q=>add_int q
def Qj:c8 X (binaryOp .Sub) (Ln λi j=>.int (i - j)):=Qh λ_ _ _ _ _ _ _ q=>sub_int q
def Qk:c8 X (binaryOp .Mult) (rI LF λi j=>.int (i*j)):=Um λ_ _ _ _ _ _ _ hc q=>mul_int q hc.ok
def LG:c8 X (binaryOp .FloorDiv) (rI Uo λi j=>.int (i / j)):=Um λi j _ _ _ _ _ hc q=>by
 have h1:=hc.1;have h2:=hc.2;grind[floordiv_int,PyProof.noPylong_small]
def Ql:c8 X (binaryOp .Mod) (rI (λ_ j=>0<j) λi j=>.int (i % j)):=Um λi j _ _ _ _ _ hc q=>by
 exact mod_int' N9 (by rw[Int.fmod_eq_emod_of_nonneg i N9];exact q)
def Qm:c8 X (binaryOp .Pow) (rI Ur λi j=>.int (i ^ j.toNat)):=Um λ_ _ _ _ _ _ _ hc q=>pow_int_small hc.1 hc.2.1 hc.2.2 q
def Qn:c8 X (binaryOp .BitAnd) (Ln λi j=>.int (Builtin.bitAnd i j)):=Qh λ_ _ _ _ _ _ _ q=>and_int q
def unI {f:Value->Sem Value}{g:Int->Int}
  (rule:∀(i:Int)(t:Tok)(s:Shared)(Q:QV)(E:QV),Q (.int (g i) s.toks) { s with toks:=s.toks+1 }->wq X (f (.int i t)) Q E s):
  Uj X f (rU λi=>.int (g i)):=by
 intro af s σ H x v Q I M h;obtain⟨i,rfl,q⟩:=h;obtain⟨t,rfl⟩:=M;exact rule i t s _ _ ⟨.int _,H,I.tok _,⟨_,rr⟩,q⟩
def Qo:Uj X (unaryOp .USub) (rU λi=>.int (-i)):=unI λ_ _ _ _ _ q=>neg_int q
def Fa:c8 X (binaryOp .Add) (λx y H Q=>∃i k,x=.int i/\y=.bl k/\Q (.int (i+b2i k)) H):=by
 intro af s σ H x y v u Q I M O h;obtain⟨i,k,rfl,rfl,q⟩:=h;obtain⟨t,rfl⟩:=M;cases O
 exact add_int_bool ⟨.int _,H,I.tok _,⟨_,rr⟩,q⟩
end
section
variable {X:Cx}{a b c:Expr}{ta tb tc:TE}{pos:Pos}
def Us:c8 X (compareOp .Lt) (Ln λi j=>.bl (decide (i<j))):=LC λ_ _ _ _ _ _ _ q=>lt_int q
def Ut:c8 X (compareOp .LtE) (Ln λi j=>.bl (decide (i<=j))):=LC λ_ _ _ _ _ _ _ q=>le_int q
def Uu:c8 X (compareOp .Gt) (Ln λi j=>.bl (decide (j<i))):=LC λ_ _ _ _ _ _ _ q=>gt_int q
def Uv:c8 X (compareOp .GtE) (Ln λi j=>.bl (decide (j<=i))):=LC λ_ _ _ _ _ _ _ q=>ge_int q
def LH (ho:c8 X (compareOp op) r)(ha:PE X a ta)(hb:PE X b tb)(hm:behindInMarks op b=false):PE X (.Compare a [op] [b] pos) (Yo r ta tb):=by
 intro af s σ H Q I h;exact wpAny_Compare1 (Qg ha hb I h λv u s2 x y H2 M O d q=>ho _ s2 σ H2 x y v u Q M O d q) hm
def OD (t:TE):TT:=λσ H Q=>t σ H λx H'=>∃k,x=.bl k/\Q k H'
def Cb {op:CmpOp}{r:R2}(ho:c8 X (compareOp op) r)(ha:PE X a ta)(hb:PE X b tb)(hm:behindInMarks op b=false):PT X (.Compare a [op] [b] pos) (OD (Yo r ta tb)):=by
 intro af s σ H Q I h;refine wpAny_isTrue_Compare1 (bD (ha _ s σ H _ I h) λv s1 ⟨x,M,O,r1,d⟩=>bD (hb _ s1 σ M _ O d) λu s2 ⟨y,H2,f,g,q2⟩=>
  bD (ho _ s2 σ H2 x y v u _ f r1 g q2) λc n ⟨z,i,j,l,k,e,m⟩=>?_) hm
 subst e;cases l
 exact wpAny_truthy_bool ⟨i,j,m⟩
def A9 (r O:R2)(ta tb tc:TE):TE:=λσ H Q=>ta σ H λx d=>tb σ d λy H2=>r x y H2 λz M=>∃k,z=.bl k /\
 (if k=true then tc σ M λe f=>O y e f Q else Q (.bl false) M)
def Hg {op M:CmpOp}{r f:R2}(ho:c8 X (compareOp op) r)(O:c8 X (compareOp M) f)(ha:PE X a ta)(hb:PE X b tb)(hc:PE X c tc)
  (hm:lastMarks [op,M] [b,c]=false:=by with_unfolding_all rfl):PE X (.Compare a [op,M] [b,c] pos) (A9 r f ta tb tc):=by
 intro af s σ H Q I h;refine Compare_chain (bD (ha _ s σ H _ I h) λv s1 ⟨x,m,n,r1,o⟩=>chain_link (bD (hb _ s1 σ m _ n o) λu s2 ⟨y,H2,p,g,q2⟩=>
  bD (ho _ s2 σ H2 x y v u _ p r1 g q2) λd q ⟨z,i,j,t,k,e,l⟩=>?_)) hm
 subst e;cases t
 refine wpAny_truthy_bool ?_;cases k with
 |false=>exact ite_ff ⟨.bl _,i,j,rr,l⟩
 |true=>exact ite_tt (chain_last (bD (hc _ q σ i _ j l) λw A ⟨B,C,D,E,F⟩=>O _ A σ C y B u w Q D g E F))
def Hh {op M:CmpOp}{r f:R2}(ho:c8 X (compareOp op) r)(O:c8 X (compareOp M) f)(ha:PE X a ta)(hb:PE X b tb)(hc:PE X c tc)
  (hm:lastMarks [op,M] [b,c]=false:=by with_unfolding_all rfl):PT X (.Compare a [op,M] [b,c] pos) (OD (A9 r f ta tb tc)):=by
 intro af s σ H Q I h;refine isTrue_chain (bD (ha _ s σ H _ I h) λv s1 ⟨x,m,n,r1,o⟩=>test_link (bD (hb _ s1 σ m _ n o) λu s2 ⟨y,H2,p,g,q2⟩=>
  bD (ho _ s2 σ H2 x y v u _ p r1 g q2) λd q ⟨z,i,j,t,k,e,l⟩=>?_)) hm
 subst e;cases t
 refine wpAny_truthy_bool ?_;cases k with
 |false=>
  obtain⟨k',w,A⟩:=l;cases w
  exact ite_ff ⟨i,j,A⟩
 |true=>
  refine ite_tt (test_last (bD (hc _ q σ i _ j l) λB C ⟨D,E,F,G,J⟩=>bD (O _ C σ E y D u B _ F g G J) λd' R ⟨S,K,L,N,k2,e2,P⟩=>?_));subst e2;cases N
  exact wpAny_truthy_bool ⟨K,L,P⟩
def nL:(sizeLine:Nat)<2 ^ 63:=H9
def AA:c8 X (binaryOp .Add) (λx y H Q=>∃i j,x=.str i/\y=.str j/\i.length+j.length<=sizeLine/\Q (.str (i++j)) H):=by
 intro af s σ H x y v u Q I M O h;obtain⟨i,j,rfl,rfl,hz,q⟩:=h;obtain⟨t,rfl⟩:=M;obtain⟨t',rfl⟩:=O;exact add_str (λt' tk=>⟨.str _,H,I.tok _,⟨_,rr⟩,q⟩) hz
def eB (r:aL [x] us):∃u,us=[u]/\aD x u:=by
 cases r with
 |cons r1 M=>cases M;exact⟨_,rr,r1⟩
def Hi (r:aL [x,y] us):∃u M,us=[u,M]/\aD x u/\aD y M:=by
 cases r with
 |cons r1 O=>
  cases O with
  |cons d e=>cases e;exact⟨_,_,rr,r1,d⟩
def Fb (hc:X.calm=true):bu X (.builtin "min") (λxs H Q=>∃i j,xs=[.int i,.int j]/\Q (.int (if j<i then j else i)) H):=by
 intro af s σ H xs us Q I r h;obtain⟨i,j,rfl,q⟩:=h;obtain⟨u,M,rfl,⟨t,rfl⟩,⟨t',rfl⟩⟩:=Hi r;refine min_two_ints (I.ok.hd hc) λh' tk k=>⟨_,H,I.kept k,?_,q⟩;by_cases hj:j<i
 .rw[if_pos hj,if_pos hj];exact⟨_,rr⟩
 .rw[if_neg hj,if_neg hj];exact⟨_,rr⟩
def Fc:bu X (.type "int") (λxs H Q=>(∃i,xs=[.int i]/\Q (.int i) H)\/∃k,xs=[.bl k]/\Q (.int (if k then 1 else 0)) H):=by
 intro af s σ H xs us Q I r h;rcases h with⟨i,rfl,q⟩|⟨k,rfl,q⟩
 .obtain⟨u,rfl,t,rfl⟩:=eB r;exact call_int_int ⟨.int i,H,I,⟨_,rr⟩,q⟩
 .obtain⟨u,rfl,r1⟩:=eB r;cases r1
  exact call_int_bool ⟨.int _,H,I.tok _,⟨_,rr⟩,q⟩
end
structure O3 (h:Heap)(x dx C:Addr)(mA:Str->Option Value):Prop where
 obj:h.get? x=some (PySem.W.instObj C dx)
 ns:h.Ns1 dx mA
 ne:dx≠x
def Fd {h:Heap}{dx:Addr}{mA:SV}(n:h.Ns1 dx mA):∃od,h.get? dx=some od/\∀name,PySem.W.lookIn name od=some (mA name):=by
 obtain⟨o,es,O,ho,hd,hk,_,hm⟩:=n;refine⟨o,ho,λname=>?_⟩;have e:=hm name;unfold nsFind findBy at e;rw[<-Array.find?_toList]at e;unfold PySem.W.lookIn;rw[hd];dsimp;split
 .simp_all
 .have a:es.toList.any (·.refKey)=false:=by
   rw[List.any_eq_false];intro y hy;obtain⟨z,t,M⟩:=hk y (Array.mem_toList_iff.mp hy);simp[DictEntry.refKey,M]
  split<;>simp_all
def O3.look (I:O3 h x dx C mA):∃od,PySem.W.InstAt h x (PySem.W.instObj C dx) C (some od)/\∀name,PySem.W.lookIn name od=some (mA name):=
 let ⟨od,ho,hl⟩:=Fd I.ns
 ⟨od,⟨I.obj,rr,rr,ho⟩,hl⟩
section
variable {prog:Program}{w:World}{A:Around}{E:QV}{s:Shared}{K:Frag}{x dx C f:Addr}{mA:SV}{name:Str}{v:Value}
end
def kX.some_of (r:kX (some v) o):∃u,o=some u/\aD v u:=by
 cases o with
 |none=>exact(show False from r).elim
 |some u=>exact⟨u,rr,r⟩
section
variable {P:Program}{w:World}{H H':Hp}{h h':Heap}{a C dx:Addr}{fs fs':List (Str×V)}
def Cc (hok:kY P w H h)(e:H a=some (.ins C dx fs)):∃mA,O3 h a dx C mA/\(∀f,kX (fs.lookup f) (mA f))/\PySem.Within mA (fs.map (·.1))/\fs.length<=1000/\H dx=some (.own a):=by
 obtain⟨d,z,ne,ob,mA,n,r,q⟩:=(show bj P w H h a _ from hok a _ e);exact⟨mA,⟨ob,n,ne⟩,r,q,z,d⟩
end
structure Cls (K:Frag)(C:Addr):Prop where
 pg:PySem.W.plainGet K C Str.empty=true
 hd:PySem.W.hasDictIn K C=true
 po:PySem.W.plainOver K C=true
 sa:PySem.W.findIn K (.ref C) "__setattr__" = some (some (.builtin "object.__setattr__"))
def Cls.get {K:Frag}{C:Addr}(c:Cls K C)(f:Str):PySem.W.plainGet K C f=true:=c.pg
structure Meth (K:Frag)(C:Addr)(m:Str)(f:Addr):Prop where
 at_:PySem.W.findIn K (.ref C) m=some (some (.ref f))
 fn:PySem.W.isFn K (.ref f)=true
 kp:PySem.W.keepIn K (.ref f)=true
section
variable {X:Cx}{af:AO}{σ:St}{H:Hp}{s:Shared}{a C dx:Addr}{fs:List (Str×V)}{f:Str}{v:V}{A:Around}{E:QV}
end
section
variable {X:Cx}{o e value:Expr}{f:Str}{pos KZ S4:Pos}{ta tv:TE}
end
section
variable {X:Cx}{af:AO}{σ:St}{H:Hp}{s:Shared}{A:Around}{E:QV}{Q:QV}{c:Value}{b:Bool}
inductive TyOf (K:Frag)(H:Hp):V->Value->Prop where
 |non:TyOf K H .non (.type "NoneType")
 |bl (x:Bool):TyOf K H (.bl x) (.type "bool")
 |int (i:Int):TyOf K H (.int i) (.type "int")
 |str (x:Str):TyOf K H (.str x) (.type "str")
 |flt (x:UInt64):TyOf K H (.flt x) (.type "float")
 |lst {a:Addr}{xs:List V}(e:H a=some (.lst xs)):TyOf K H (.ref a) (.type "list")
 |frz {a:Addr}{o:Obj}{xs:List V}(e:H a=some (.frz o (.lst xs))):TyOf K H (.ref a) (.type "list")
 |tup {a:Addr}{xs:List V}(e:H a=some (.tup xs)):TyOf K H (.ref a) (.type "tuple")
 |dK {a:Addr}{a9:List (dh×V)}{ob:Obj}(e:H a=some (.dK a9 ob)):TyOf K H (.ref a) (.type "dict")
 |dT {a:Addr}{a9:List (List dh×V)}(e:H a=some (.dT a9)):TyOf K H (.ref a) (.type "dict")
 |ins {a C dx:Addr}{fs:List (Str×V)}(e:H a=some (.ins C dx fs)) (cl:Cls K C) (ha:PySem.W.findIn K (.ref C) "__class__" = some (some (.builtin "object.__class__")))
   (hn:PySem.W.specialIn K (.builtin "object.__class__") "__get__" = some (some (.builtin "getset_descriptor.__get__"))) (Yx:PySem.W.takesIn K (.builtin "object.__class__")=some true)
   (hm:PySem.W.mroIn K C (.type "object")=some true):TyOf K H (.ref a) (.ref C)
def fL (I:Inv X af σ H s)(M:aD x u)(ty:TyOf X.K H x t)(e:PySem.W.kitOne X.K t c=some b)(h:∀tk,Q (.bool b) { s with toks:=tk }):
  wpAny (model X.prog X.w) A (call (.builtin "isinstance") [u,c]) Q E s:=by
 cases ty with
 |non=>cases (show u=Value.none from M);exact kia_one PySem.W.kitx_none I.kIn True.intro e (λz=>nomatch z) h
 |bl y=>cases (show u=Value.bool y from M);exact kia_one PySem.W.kitx_bool I.kIn True.intro e (λz=>nomatch z) h
 |int i=>obtain⟨t,q⟩:=(show ∃t,u=Value.int i t from M);cases q;exact kia_one PySem.W.kitx_int I.kIn True.intro e (λz=>nomatch z) h
 |str y=>obtain⟨t,q⟩:=(show ∃t,u=Value.str y t from M);cases q;exact kia_one PySem.W.kitx_str I.kIn True.intro e (λz=>nomatch z) h
 |flt y=>obtain⟨t,q⟩:=(show ∃t,u=Value.float y t from M);cases q;exact kia_one PySem.W.kitx_float I.kIn True.intro e (λz=>nomatch z) h
 |@lst a xs ea=>
  cases (show u=Value.ref a from M)
  obtain⟨_,_,n,_,h1⟩:=(show bj X.prog X.w H s.heap a (.lst xs)from I.hok a _ ea);exact kia_one PySem.W.kitx_list I.kIn ⟨_,h1,rr⟩ e (λz=>nomatch z) h
 |@frz a ob xs ea=>
  cases (show u=Value.ref a from M)
  obtain⟨_,_,_,n,_,h1⟩:=(show bj X.prog X.w H s.heap a (.frz ob (.lst xs))from I.hok a _ ea);exact kia_one PySem.W.kitx_list I.kIn ⟨_,h1,rr⟩ e (λz=>nomatch z) h
 |@tup a xs ea=>
  cases (show u=Value.ref a from M)
  obtain⟨_,_,_,p⟩:=(show bj X.prog X.w H s.heap a (.tup xs)from I.hok a _ ea);obtain⟨o,h1,h2,_⟩:=p;exact kia_one PySem.W.kitx_tuple I.kIn ⟨o,h1,h2⟩ e (λz=>nomatch z) h
 |@dK a a9 ob ea=>
  cases (show u=Value.ref a from M)
  refine cX λG g=>?_;obtain⟨_,_,_,vs,_,p⟩:=(show bj X.prog X.w H s.heap a (.dK a9 ob)from I.hok a _ ea);obtain⟨o,es,d,h1,h2,_⟩:=p;apply g;exact kia_one PySem.W.kitx_dict I.kIn ⟨o,h1,h2.1⟩ e (λz=>nomatch z) h
 |@dT a a9 ea=>
  cases (show u=Value.ref a from M)
  refine cX λG g=>?_;obtain⟨_,_,xs,_,o,es,d,h1,h2,_⟩:=(show bj X.prog X.w H s.heap a (.dT a9)from I.hok a _ ea);apply g;exact kia_one PySem.W.kitx_dict I.kIn ⟨o,h1,h2.1⟩ e (λz=>nomatch z) h
 |@ins a C dx fs ea cl ha hn Yx hm=>
  cases (show u=Value.ref a from M)
  obtain⟨mA,O,_⟩:=Cc I.hok ea;obtain⟨od,J,_⟩:=O.look;exact kia_one (PySem.W.kitx_own (cl.get _) cl.hd ha hn Yx hm) I.kIn J e (λz=>nomatch z) h
end
structure dr (k:Nat)(A:Around):Prop where
 hd:A.handled=none
 dp:A.depth+3*k+5<recursionLimit
 un:A.units+16*k+200<cLine
def dr.mono (r:dr k A)(h:j<=k):dr j A:=⟨r.hd,by have:=r.dp;lia,by have:=r.un;lia⟩
def dr.deeper (r:dr (k+1) A)(env:Env):dr k (A.deeper env):=
 ⟨r.hd,by have:=r.dp;show A.depth+1+3*k+5<_;lia,by have:=r.un;simp<;>lia⟩
def dr.in1 (r:dr (k+1) A):dr k A.in1:=
 ⟨r.hd,by have:=r.dp;lia,by have:=r.un;lia⟩
def dr.depth (r:dr k A):A.depth<recursionLimit:=by have:=r.dp;lia
def Ux:TA:=λ_ H Q=>Q [] H
def OF (ta:TE)(M:TA):TA:=λσ H Q=>ta σ H λx O=>M σ O λxs H2=>Q (x::xs) H2
section
variable {X:Cx}{e:Expr}{es:QD}{te:TE}{t:TA}{pos:Pos}
def dL:PA X [] Ux:=λ_ _ _ _ H Q I h=>Calls.spliced_nil ⟨[],H,I,.nil,h⟩
def cC (ha:PE X e te)(hr:PA X es t)(hs:starEach (e::es) X.env=(false,eval e X.env)::starEach es X.env:=by rfl):PA X (e::es) (OF te t):=by
 intro pos af s σ H Q I h;rw[hs];refine Calls.spliced_cons (bD (ha _ s σ H _ I h) λu s1 ⟨x,M,O,r1,a⟩=>?_);exact bD (hr _ _ s1 σ M _ O a) λus s2 ⟨xs,H2,b,c,q2⟩=>⟨x::xs,H2,b,.cons r1 c,q2⟩
def Uy (t:TA):TE:=λσ H Q=>t σ H λxs M=>xs.length<=sizeLine/\∀p,M p=none->Q (.ref p) (upd M p (.tup xs))
def YQ (t:TA):TE:=λσ H Q=>t σ H λxs M=>xs.length<=sizeLine/\∀p,M p=none->Q (.ref p) (upd M p (.lst xs))
def AD {x1}(h:PA X es t):PE X (.Tuple es x1 pos) (Uy t):=by
 intro af s σ H Q I hq;refine wpAny_Tuple_spliced (bD (h _ _ s σ H _ I hq) λus s1 ⟨xs,O,M,r,z,q⟩=>⟨by rw[<-r.length];exact z,?_⟩);have hf:=M.hok.fresh (vT _);refine⟨.ref _,upd O _ _,M.laid (λb u e=>vZ _ e) (vT _) ?_,rr,q _ hf⟩;exact⟨z,us,r,⟨_,vY _ rr,rr,_,rr⟩⟩
def Qq (h:PA X es t):PE X (.List es pos) (YQ t):=by
 intro af s σ H Q I hq;refine wpAny_List_spliced (bD (h _ _ s σ H _ I hq) λus s1 ⟨xs,O,M,r,z,q⟩=>⟨by rw[<-r.length];exact z,?_⟩);have hf:=M.hok.fresh (vT _);refine⟨.ref _,upd O _ _,M.laid (λb u e=>vZ _ e) (vT _) ?_,rr,q _ hf⟩;exact⟨z,us,0,r,vY _ rr⟩
end
abbrev Sp:=List V->Hp->VK->XK->Prop
abbrev OG:=List Env->Hp->Shared->XK->QV
structure Env0 (P:Program)(w:World)(K:Frag)(mg:Str->Option Value)(base:Heap)(A:Around)(outer:List Env)(s:Shared)(H:Hp):Prop where
 frames:A.frames=some outer
 mod:Mod K mg base
 bs:∀b o,base.get? b=some o->s.heap.get? b=some o/\H b=none
 bsz:base.objs.size<=s.z
 funs:s.heap.FunFrames base outer
 frf:∀b∈GX outer,H b=none
 hok:kY P w H s.heap
 bare:AllBare s.gens
def CE (outer:List Env)(P:Program)(w:World)(H:Hp)(s:Shared)(Q:VK)(u:Value)(s':Shared):Prop:=
 ∃v H',s'.os=s.os/\AllBare s'.gens/\Un (GX outer) [] H H' s.heap s'.heap/\kY P w H' s'.heap/\aD v u/\Q v H'
def CR (CX:OG)(outer:List Env)(P:Program)(w:World)(H:Hp)(s:Shared)(Q:VK)(E:XK)(r:Result)(s':Shared):Prop:=
 match r with
 |.ok (.ret u)=>CE outer P w H s Q u s'
 |.ok _=>False
 |.error e=>CX outer H s E e s'
structure sk (P:Program)(w:World)(K:Frag)(mg:Str->Option Value)(base:Heap)(CX:OG)(k:Nat)(f:Addr)(fd:FuncData)(ps:List Str)(sp:Sp):Prop where
 len:∀vs H Q E,sp vs H Q E->vs.length=ps.length
 run:∀(A:Around)(outer:List Env)(s:Shared)(H:Hp)(args:Args)(us:List Value)(vs:List V)(Q:VK)(E:XK),dr k A->Env0 P w K mg base A outer s H->BindsTo s fd args (ps.zip us)->aL vs us->sp vs H Q E ->
  codeAny (model P w) A (.call (.ref f) args) (CR CX outer P w H s Q E) s
section
variable {X:Cx}{af:AO}{σ:St}{H:Hp}{s s':Shared}
def Inv.env0 (I:Inv X af σ H s):Env0 X.prog X.w X.K X.mg X.base X.A X.stack s H:=
 ⟨I.ok.frames,I.ok.mod,I.bs,vR I.ok.bsz I.sz,I.stack,I.stkFree,I.hok,I.bare⟩
def Inv.after (I:Inv X af σ H s)(h:CE X.stack X.prog X.w H s Q u s'):EP X af σ Q u s':=by
 refine cX λG K=>?_;obtain⟨v,H',os,bare,un,hok,r,q⟩:=h;obtain⟨hh,g,d,t,M⟩:=s';apply K;obtain rfl:M=s.os:=os;exact⟨v,H',I.call un hok bare (λb z=>absurd z X9),r,q⟩
end
def Uz (sp:Sp)(M:List V)(E:XK)(t:TA):TE:=λσ H Q=>t σ H λvs O=>sp (vs++M) O Q E
def oD (K:Frag)(fd:FuncData)(ps:LS)(ds:LU):Prop:=
 ∀(s:Shared)(us:LU),K.In s.heap->(us++ds).length=ps.length->BindsTo s fd ⟨us,[]⟩ (ps.zip (us++ds))
def oD.all {K:Frag}{fd:FuncData}{ps:LS}(h:∀us:LU,us.length=ps.length->bindArgs fd ⟨us,[]⟩=pure (ps.zip us)):oD K fd ps []:=λs us _ hl=>by
 rw[uQ]at hl |-;exact .of_eq (h us hl)
def AE (CX:OG)(X:Cx)(E:XK):Prop:=∀(af:AO)(σ:St)(H:Hp)(s:Shared)(e:Value)(s':Shared),Inv X af σ H s->CX X.stack H s E e s'->X.xe e s'
section
variable {X:Cx}{CX:OG}{k:Nat}{f C:Addr}{fd:FuncData}{ps:LS}{sp:Sp}{X3:List V}{ds:LU}{E:XK}{x m:Str}{p pos cb:Pos}{e o:Expr}{es:QD}{ta:TE}{t:TA}
def Qr {af:AO}{σ:St}{H:Hp}{s:Shared}{Q:VK}{us:LU}{vs:List V}(F:sk X.prog X.w X.K X.mg X.base CX k f fd ps sp)(hr:dr k X.A)(hb:oD X.K fd ps ds)(hd:aL X3 ds)(hx:AE CX X E)
  (I:Inv X af σ H s) (r:aL vs us) (h:sp (vs++X3) H Q E):wq X (call (.ref f) us) (EP X af σ Q) X.xe s:=by
 have M:=r.append hd;have hl:(us++ds).length=ps.length:=by rw[<-M.length];exact F.len _ _ _ _ h
 refine wpAny_call (codeAny_mono (F.run _ _ s H _ _ _ Q E hr I.env0 (hb s us I.kIn hl) M h) λr s' hq=>?_);cases r with
 |error e=>exact hx _ σ H s e s' I hq
 |ok fl=>
  cases fl with
  |ret u=>exact I.after hq
  |next=>exact False.elim hq
  |brk=>exact False.elim hq
  |cont=>exact False.elim hq
def LJ (F:sk X.prog X.w X.K X.mg X.base CX k f fd ps sp)(hr:dr k X.A)(b:Gl X x)(hm:X.mg x=some (.ref f))(hk:PySem.W.keepIn X.K (.ref f)=true)(hb:oD X.K fd ps ds)(hd:aL X3 ds)(hx:AE CX X E)
  (ha:PA X (e::es) t) (M:(x == ("__debug__" : Str))=false:=by decide) (he:starEach (e::es) X.env=(false,eval e X.env)::starEach es X.env:=by rfl) (O:(backTo pos (starEach es X.env)).any (·.1)=false:=by rfl):
  PE X (.Call (.Name x p) (e::es) [] pos) (Uz sp X3 E t):=by
 intro af s σ H Q I h;refine wpAny_Call_Name_kw (vj I b hm ?_ M);refine PySem.W.callWith_K I.ok.mod.kin hk (bD (ha _ _ s σ H _ I h) λus s1 ⟨vs,c,a,r,q⟩=>⟨a.kIn,?_⟩) he O;exact Qr F hr hb hd hx a r q
end
structure FnScope (N P:List Str)(sc:Scope):Prop where
 kind:sc.kind=.function
 co:sc.isCoroutine=false
 gen:sc.isGenerator=false
 nd:N.Nodup
 pre:N.take P.length=P
 par:∀x∈P,sc.names.lookup x=some .local\/sc.names.lookup x=some .cell
 nofree:∀y∈sc.names,y.2≠.free
theorem tq {kindOf:Str->Option NameKind}{x:Str}:∀ {binds:List (Str×Value)}{m:SV},(∀v,(x,v)∉binds)->bindL kindOf binds m x=m x
 |[],_,_=>rr
 | (n,v)::r,m,h=>by
  unfold bindL;rw[tq λw hw=>h w (mZ _ hw)];split
  .grind
  .rfl
theorem tu {kindOf:Str->Option NameKind}{x:Str}:∀ {binds:List (Str×Value)}{m:SV},(∀v,(x,v)∉binds)->bindC kindOf binds m x=m x
 |[],_,_=>rr
 | (n,v)::r,m,h=>by
  unfold bindC;rw[tu λw hw=>h w (mZ _ hw)];split
  .rfl
  grind
theorem t6 {kindOf:Str->Option NameKind}{x:Str}{v:Value}:∀ {P:LS}{vs:LU}{i:Nat}{m:SV},P.Nodup->P[i]? = some x->vs[i]? = some v->kindOf x=some .local ->
  bindL kindOf (P.zip vs) m x=some v
 |[],_,_,_,_,h,_,_=>by simp at h
 |_::_,[],_,_,_,_,h,_=>by simp at h
 |p::P,w::vs,0,m,nd,h1,h2,hk=>by
  simp at h1 h2;subst h1;subst h2;show bindL _ ((p,w)::P.zip vs) m p=_;unfold bindL;rw[tq λv hv=>(nodup_cons.mp nd).1 (of_mem_zip hv).1,if_pos hk];simp
 |p::P,w::vs,i+1,m,nd,h1,h2,hk=>by
  unfold bindL;exact t6 (nodup_cons.mp nd).2 (by simpa using h1) (by simpa using h2) hk
theorem t7 {kindOf:Str->Option NameKind}{x:Str}{v:Value}:∀ {P:LS}{vs:LU}{i:Nat}{m:SV},P.Nodup->P[i]? = some x->vs[i]? = some v->kindOf x≠some .local ->
  bindC kindOf (P.zip vs) m x=some v
 |[],_,_,_,_,h,_,_=>by simp at h
 |_::_,[],_,_,_,_,h,_=>by simp at h
 |p::P,w::vs,0,m,nd,h1,h2,hk=>by
  simp at h1 h2;subst h1;subst h2;show bindC _ ((p,w)::P.zip vs) m p=_;unfold bindC;rw[tu λv hv=>(nodup_cons.mp nd).1 (of_mem_zip hv).1,if_neg hk];simp
 |p::P,w::vs,i+1,m,nd,h1,h2,hk=>by
  unfold bindC;exact t7 (nodup_cons.mp nd).2 (by simpa using h1) (by simpa using h2) hk
noncomputable def lf (N:LS)(vs:List V):St:=vs.map some++List.replicate (N.length - vs.length) none
noncomputable def pN (CX:OG)(P:Program)(w:World)(K:Frag)(mg:SV)(base:Heap)(N:LS)(qual:Str)(scope:Scope)(f:Addr)(cd:Value)(A:Around)(outer:List Env)(s:Shared)(H:Hp)(E:XK):Cx where
 prog:=P
 w:=w
 K:=K
 mg:=mg
 base:=base
 A:=A.deeper (envOfC qual scope s.z f cd)
 N:=N
 s₀:=s
 H₀:=H
 env:=envOfC qual scope s.z f cd
 outer:=outer
 stack:=envOfC qual scope s.z f cd::outer
 ex:=[]
 calm:=true
 fn:=λ_=>true
 pn:=[]
 xe:=λe s'=>wpAny (model P w) (A.deeper (envOfC qual scope s.z f cd)) (leaving (envOfC qual scope s.z f cd) e) (λ_ M=>CX outer H s E e M) (λO M=>CX outer H s E O M) s'
def pO {sc:Scope}{n:Nat}{x:Str}(h:sc.names.lookup x=some .cell):∃c,(cellsFrom n sc.names []).lookup x=some c:=by
 have q:=PySem.W.cellsFrom_some _ n [] (.inl h);exact uU q
def Fe {CX:OG}{P:Program}{w:World}{K:Frag}{mg:SV}{base:Heap}{N ps:LS}{qual:Str}{scope:Scope}{f:Addr}{cd:Value}{A:Around}{outer:List Env}{s s1:Shared}{H:Hp}{E:XK}{us:LU}{vs:List V}
  (S:FnScope N ps scope) (hd:A.handled=none) (M:Env0 P w K mg base A outer s H) (hl:vs.length=ps.length) (r:aL vs us)
  (x:InCallC s s.z (bindL (envOfC qual scope s.z f cd).kindOf (ps.zip us) λ_=>none) (cellsFrom (s.z+1) scope.names []) (bindC (envOfC qual scope s.z f cd).kindOf (ps.zip us) λ_=>none) s1):
  Inv (pN CX P w K mg base N qual scope f cd A outer s H E) [] (lf N vs) H s1:=by
 have d:ps.length<=N.length:=by have:=congrArg List.length S.pre;grind
 obtain⟨h1,tk,rfl,hk⟩:=x.done;have O:∀b:Addr,b∉(pN CX P w K mg base N qual scope f cd A outer s H E).ex:=λb z=>absurd (show b∈([]:List Addr)from z) X9;refine⟨⟨M.mod,S.kind,rr,rr,vT _,λy z c h1 h2=>?_,λy hy=>?_,λy c _ h=>?_,λ_=>hd,Around.frames_deeper M.frames,.inr ⟨rr,rr⟩,λb z=>absurd z (O b),M.bs,M.bsz,λb _ _=>O b,λb z=>absurd z (O b),M.funs,M.frf⟩,
  rr,M.bare,Un.kept hk,⟨_,x.toInCall.ns,λi y v h1 h2 h3=>?_⟩,λy c h=>⟨_,x.cell y c h⟩,M.hok.fresh (vT _),λy c h=>?_,λp hp=>absurd (show p∈([]:AO)from hp) X9,M.hok.kept hk,?_⟩
 .exact name_of_addr x.apart (PySem.mem_of_lookup h1) (PySem.mem_of_lookup h2)
 .rcases hy with hy|hy
  .exact pO hy
  .exact absurd rr (S.nofree _ (PySem.mem_of_lookup hy))
 .exact le_of_lt (x.above y c (PySem.mem_of_lookup h))
 .have hi:i<vs.length:=by
   unfold lf at h2;by_cases hi:i<vs.length
   .exact hi
   .rw[getElem?_append_right (by simpa using hi)]at h2;rw[List.getElem?_replicate]at h2;split at h2<;>cases h2
  have ha:vs[i]? = some v:=by
   simp_all[lf,getElem?_append_left]
  obtain⟨u,hu,rv⟩:=r.get ha;have hp:ps[i]? = some y:=by
   rw[<-S.pre,List.getElem?_take_of_lt N9];exact h1
  have a:ps.Nodup:=by rw[<-S.pre];exact S.nd.sublist (take_sublist _ _)
  refine⟨u,rv,?_⟩;rcases S.par y (vL hp)with k|k
  .exact .inl ⟨k,t6 a hp hu k⟩
  .obtain⟨c,e⟩:=pO (n:=s.z+1) k;refine .inr ⟨.inl k,c,e,?_⟩;have q:=x.cell y c e;rw[t7 a hp hu (by show scope.names.lookup y≠_;rw[k];decide)]at q;exact q
 .exact M.hok.fresh (le_of_lt (x.above y c (PySem.mem_of_lookup h)))
 .unfold lf;show _=N.length;simp_all
def OH {CX:OG}{P:Program}{w:World}{K:Frag}{mg:SV}{base:Heap}{k:Nat}{f:Addr}{name qual:Str}{params:Arguments}{M:List Stmt}{scope:Scope}{d kV doc pm dF ct oc:Value}{an od:Option Addr}
  {nJ:Array (Option Value)}{N ps:LS}{sp:Sp}(lk:K.lookup f=some ⟨oc,od,.func (fnOf name qual params M scope d kV doc pm an dF ct),nJ⟩) (i:PySem.W.codeIn K dF qual=true) (S:FnScope N ps scope)
  (len:∀vs H Q E,sp vs H Q E->vs.length=ps.length)
  (j:∀(A:Around)(outer:List Env)(s:Shared)(H:Hp)(vs:List V)(Q:VK)(E:XK),dr k (A.deeper (envOfC qual scope s.z f dF))->sp vs H Q E ->
   ∃t,tj (pN CX P w K mg base N qual scope f dF A outer s H E) M t/\t { nx:=λ_ H'=>Q .non H',rt:=Q } (lf N vs) H):
  sk P w K mg base CX (k+1) f (fnOf name qual params M scope d kV doc pm an dF ct) ps sp:=by
 refine⟨len,λA outer s H args us vs Q E hr a hb r g=>?_⟩;have hl:=len _ _ _ _ g;have h:=a.mod.kin.keeps λb o e=>(a.bs b o e).1;have c:=a.mod.nolimit.keeps λb o e=>(a.bs b o e).1;have l:∀y∈ps.zip us,scope.names.lookup y.1=some _\/(scope.names.lookup y.1=some .cell/\((cellsFrom (s.z+1) _ []).lookup y.1).isSome=true):=λ⟨n,v⟩ hy=>by
  rcases S.par n (of_mem_zip hy).1 with q|q
  .exact .inl q
  .exact .inr ⟨q,PySem.W.cellsFrom_some _ _ _ (.inl q)⟩
 refine codeAny_call_function hr.depth (h _ _ lk) rr S.co S.gen rr (PySem.W.codeRec_of h i) (hb _ _ _ _ ?_);refine wpAny_newFunctionEnv_cells S.kind l λenv he s1 x=>?_;subst he;refine⟨c.keeps x.toInCall.keep,codeAny_func ?_⟩;obtain⟨t,m,hq⟩:=j A outer s H vs Q E (hr.deeper _) g;have I:Inv (pN CX P w K mg base N qual scope f dF A outer s H E) [] _ H s1:=Fe S hr.hd a hl r x;refine wpAny_mono (m [] s1 _ H _ I hq) (λfl s' hs=>?_) λe s' hs=>hs;have dJ:∀ {O:St}{H':Hp}{v:V}{u:Value},Inv (pN CX P w K mg base N qual scope f dF A outer s H E) [] O H' s'->aD v u->Q v H'->CE outer P w H s Q u s':=
  λ{O H' v u} J rv q=>⟨v,H',J.os,J.bare,J.base,J.hok,rv,q⟩
 cases fl with
 |ret u=>
  obtain⟨v,O,H',J,rv,q⟩:=hs;exact dJ J rv q
 |next=>
  obtain⟨O,H',J,q⟩:=hs;exact dJ (v:=V.non) J rr q
 |brk=>
  obtain⟨_,_,_,q⟩:=hs;simp_all
 |cont=>
  obtain⟨_,_,_,q⟩:=hs;simp_all
section
variable {X:Cx}{x:Str}{p pos:Pos}{e:Expr}{es:QD}{t:TA}{id T:String}{r:List V->Hp->VK->Prop}
def tCB (r:List V->Hp->VK->Prop)(t:TA):TE:=λσ H Q=>t σ H λvs M=>r vs M Q
def mm (hc:bu X (.builtin id) r)(a:Gl X x)(hm:X.mg x=none)(hv:bootBuiltins x=some (.builtin id))(ha:PA X (e::es) t)(hn:x ≠ "__name__":=by decide)(M:(x == ("__debug__" : Str))=false:=by decide)
  (he:starEach (e::es) X.env=(false,eval e X.env)::starEach es X.env:=by rfl) (O:(backTo pos (starEach es X.env)).any (·.1)=false:=by rfl):PE X (.Call (.Name x p) (e::es) [] pos) (tCB r t):=by
 intro af s σ H Q I h;refine wpAny_Call_Name_kw (eE I a hm hv ?_ hn M);exact PyProof.Rows.callWith_builtin1 (bD (ha _ _ s σ H _ I h) λus s1 ⟨vs,b,c,r1,d⟩=>hc _ s1 σ b vs us Q c r1 d) he O
def km (hc:bu X (.type T) r)(a:Gl X x)(hm:X.mg x=none)(hv:bootBuiltins x=some (.type T))(ha:PA X (e::es) t)(hn:x ≠ "__name__":=by decide)(M:(x == ("__debug__" : Str))=false:=by decide)
  (he:starEach (e::es) X.env=(false,eval e X.env)::starEach es X.env:=by rfl) (O:(backTo pos (starEach es X.env)).any (·.1)=false:=by rfl):PE X (.Call (.Name x p) (e::es) [] pos) (tCB r t):=by
 intro af s σ H Q I h;refine wpAny_Call_Name_kw (eE I a hm hv ?_ hn M);exact PyProof.Rows.callWith_type1 (bD (ha _ _ s σ H _ I h) λus s1 ⟨vs,b,c,r1,d⟩=>hc _ s1 σ b vs us Q c r1 d) he O
end
end L2
namespace HT
open PySem PyProof.Rows
section
open PySem.SeqAt
open PySem.AutoSeq1 (wpAny_loadPart')
open PySem.MeetsSeq PySem.MeetsSeq2 PySem.MeetsSeq3
end
section
variable {prog:Program}{w:World}{A:Around}{E:QV}{s:Shared}
def LL (f:IsTup s.heap t vs.toArray)(hb:IsTup s.heap b ws.toArray)(hv:vs≠[])
  (h1:ws=[]->Q (.ref t) s) (h2:ws≠[]->Q (.ref s.z) { s with heap:=s.heap.push { cls:=.type "tuple",data:=.seq (vs++ws).toArray } })
  (hsz:vs.length+ws.length<=sizeLine):wpAny (model prog w) A (binaryOp .Add (.ref t) (.ref b)) Q E s:=by
 refine cX λG K=>?_;obtain⟨⟨cls,dd,data,sl⟩,ho,hc,n,hd⟩:=id f;obtain⟨⟨g,O,data2,a⟩,M,d,n2,c⟩:=id hb;apply K;clear K;simp only at hc hd d c;subst hc hd d c;have e:vs.toArray++ws.toArray=(vs++ws).toArray:=X9
 by_cases hw:ws=[]
 .exact concat_meets ⟨_,ho,rr⟩ ⟨_,M,rr⟩ noFill_tuple_add seq_tuple_add slot_tuple_add PySem.F.entry_tuple_add (PySem.F.args_tuple_add_2 _ _)
   (tuple_addW1 t b vs.toArray ws.toArray n n2 dd O sl a (by simpa using hv) (by simp[hw])) ⟨ho,M,h1 hw⟩
 .refine concat_meets ⟨_,ho,rr⟩ ⟨_,M,rr⟩ noFill_tuple_add seq_tuple_add slot_tuple_add PySem.F.entry_tuple_add (PySem.F.args_tuple_add_2 _ _)
   (tuple_addW2 t b vs.toArray ws.toArray n n2 dd O sl a (by simpa using hv) (by simpa using hw) (by simp_all)) ⟨ho,M,?_⟩
  rw[e];exact h2 hw
noncomputable def cQ (n d:Nat):OI->Nat
 |none=>d
 |some v=>if v<0 then (v+(n:Int)).toNat else min v.toNat n
def Hk (n d:Nat):cQ n d none=d:=rfl
def LM (n d k:Nat):cQ n d (some (k:Int))=min k n:=by
 rfl
def Qs (n d:Nat)(hd:d<=n)(o:OI):cQ n d o<=n:=by
 cases o with
 |none=>exact hd
 |some v=>
  show(if v<0 then (v+(n:Int)).toNat else min v.toNat n)<=n;by_cases hv:v<0
  .rw[if_pos hv];lia
  .rw[if_neg hv];exact Nat.min_le_right _ _
def Ce (v:Int)(n d:Nat):(if v<0 then max (v+(n:Int)) 0 else min v (n:Int))=((cQ n d (some v):Nat):Int):=by
 show(if v<0 then max (v+(n:Int)) 0 else min v (n:Int))=(((if v<0 then (v+(n:Int)).toNat else min v.toNat n):Nat):Int);grind
def AF (lo hi:OI)(n:Nat):Builtin.Slice.sliceAdjust lo hi 1 (n:Int)=(((cQ n 0 lo:Nat):Int),((cQ n n hi:Nat):Int)):=by
 have h1:¬((1:Int)<0):=N9
 unfold Builtin.Slice.sliceAdjust;simp only[h1,if_false];refine Prod.ext ?_ ?_
 .cases lo with
  |none=>rfl
  |some v=>exact Ce v n 0
 .cases hi with
  |none=>rfl
  |some v=>exact Ce v n n
def AG (i j:Nat):Builtin.Slice.slicePlaces (i:Int) (j:Int) 1=j - i:=by
 unfold Builtin.Slice.slicePlaces;simp<;>lia
def pP (p:IsPart v o)(h:Q o s):wpAny (model prog w) A (Builtin.Slice.slicePartIndex v) Q E s:=by
 cases p with
 |none=>exact slicePart_none h
 |int i t=>exact slicePart_int h
def iB {sl:Addr}{vl a:Value}{lo hi:OI}{n:Nat}{Q:Int×Int×Nat->Shared->Prop}(hs:s.heap.IsSliceOf sl vl a .none)(pl:IsPart vl lo)(b:IsPart a hi)
  (h:Q (((cQ n 0 lo:Nat):Int),1,cQ n n hi - cQ n 0 lo) s):wpAny (model prog w) A (Builtin.Slice.sliceApplied (.ref sl) (pure (n:Int))) Q E s:=by
 obtain⟨os,M,c,O⟩:=id hs;unfold Builtin.Slice.sliceApplied Builtin.Slice.sliceFields;refine wX (wX (wpAny_field M O (x:=vl) rr (wX (wpAny_field M O (x:=a) rr (wX (wpAny_field M O (x:=.none) rr (wY ?_)))))));refine wX (slicePart_none ?_);show wpAny _ _ (if((1:Int) == 0)=true then _ else _) _ _ s;rw[if_neg H9];refine wX (pP pl (wX (pP b (wX (wY ?_)))));show wpAny _ _ (match Builtin.Slice.sliceAdjust lo hi 1 (n:Int) with|(lo,hi)=>pure (lo,(1:Int),Builtin.Slice.slicePlaces lo hi 1)) _ _ s;rw[AF lo hi n];show wpAny _ _ (pure (((cQ n 0 lo:Nat):Int),(1:Int),Builtin.Slice.slicePlaces ((cQ n 0 lo:Nat):Int) ((cQ n n hi:Nat):Int) 1)) _ _ s;rw[AG];exact wY h
def Hl (xs:AV)(i k:Nat):((List.range k).filterMap λ(m:Nat)=>xs[((i:Int)+(m:Int)*1).toNat]?).toArray=((xs.toList.drop i).take k).toArray:=by
 have e:(λ(m:Nat)=>xs[((i:Int)+(m:Int)*1).toNat]?)=λm=>xs[i+m]?:=by
  funext m;have:((i:Int)+(m:Int)*1).toNat=i+m:=N9
  rw[this]
 rw[e];have:=pick_run xs i k;rw[List.filterMap_map]at this;have e2:((λx=>xs[x]?) ∘ λx=>i+x)=λm=>xs[i+m]?:=rr;simp_all
def mn {t sl:Addr}{items:AV}{vl c:Value}{lo hi:OI}{Q:QV}(O:IsTup s.heap t items)(hs:s.heap.IsSliceOf sl vl c .none)(pl:IsPart vl lo)(d:IsPart c hi)
  (hw:¬(cQ items.size 0 lo=0/\cQ items.size items.size hi=items.size))
  (h:Q (.ref s.z) { s with heap:=s.heap.push { cls:=.type "tuple",data:=.seq ((items.toList.drop (cQ items.size 0 lo)).take (cQ items.size items.size hi - cQ items.size 0 lo)).toArray } })
  (hsz:items.size<=sizeLine):wpAny (model prog w) A (getItem (.ref t) (.ref sl)) Q E s:=by
 have M:sizeOk (.seq ((items.toList.drop (cQ items.size 0 lo)).take (cQ items.size items.size hi - cQ items.size 0 lo)).toArray):=by
  show((items.toList.drop (cQ items.size 0 lo)).take (cQ items.size items.size hi - cQ items.size 0 lo)).toArray.size<=sizeLine
  exact Nat.le_trans (((items.toList.drop _).take_sublist _).trans (items.toList.drop_sublist _)).length_le hsz
 have hj:cQ items.size items.size hi<=items.size:=Qs _ _ (vT _) hi
 obtain⟨os,a,e,f⟩:=id hs
 have b:s.TypeIs (.ref sl) "slice":=⟨os,a,e⟩
 unfold getItem
 try with_reducible refine wpAny_holding ?_
 first|refine wX (wY ?_)|skip
 refine wX (wpAny_sequenceKey O.typeIs H9 ?_)
 refine wX (wpAny_callSpecial?_slot (name:=Str.ofString "__getitem__") O.typeIs PyProof.Rows.slot_tuple_getitem
  (wpAny_call_entry PyProof.Rows.slot_tuple_getitem O.typeIs entry_tuple_getitem ?_ (args_tuple_getitem _ _)))
 show wpAny _ _ (Builtin.Tuple.tupleItemsOf (.ref t)>>=_) _ _ s
 refine wX (tupleItemsOf_ O ?_)
 refine wX (wpAny_typeOf b ?_)
 rw[if_pos H9]
 refine wX (iB hs pl d ?_)
 have g:¬((((cQ items.size 0 lo:Nat):Int) == 0 && (1:Int) == 1 && (cQ items.size items.size hi - cQ items.size 0 lo) == items.size)=true):=by
  simp_all
 show wpAny _ _ (if(((cQ items.size 0 lo:Nat):Int) == 0 && (1:Int) == 1 && (cQ items.size items.size hi - cQ items.size 0 lo) == items.size)=true then _ else _) _ _ s
 rw[if_neg g,Hl]
 first
  |exact wX (m:=Builtin.Tuple.tupleExact _) (wpAny_newObj_type (wY ⟨_,rr,wY h⟩) M)
  |exact wX (m:=Builtin.Tuple.tupleExact _) (wpAny_newObj_type (wX (wY (wY ⟨_,rr,wY h⟩))) M)
  |exact wX (wX (m:=Builtin.Tuple.tupleExact _) (wpAny_newObj_type (wY (wY ⟨_,rr,wY h⟩)) M))
  |exact wX (wX (m:=Builtin.Tuple.tupleExact _) (wpAny_newObj_type (wY ⟨_,rr,wY h⟩) M))
end
end HT
namespace L2
open PySem PySem.Spec PyProof.Rows
abbrev TO:=St->Hp->(OI->Hp->Prop)->Prop
def PO (X:Cx)(e:Option Expr)(t:TO):Prop:=
 ∀(af:AO)(s:Shared)(σ:St)(H:Hp)(Q:OI->Hp->Prop),Inv X af σ H s->t σ H Q ->
  wq X (evalPart e X.env) (λu s'=>∃o H',Inv X af σ H' s'/\IsPart u o/\Q o H') X.xe s
def LO:TO:=λ_ H Q=>Q none H
def U0 (t:TE):TO:=λσ H Q=>t σ H λx M=>∃i,x=.int i/\Q (some i) M
section
variable {X:Cx}{e:Expr}{te:TE}{lo hi:Option Expr}{tl th:TO}{pos p2:Pos}
def LP:PO X none LO:=by
 intro af s σ H Q I h;rw[evalPart_none];exact wY ⟨none,H,I,.none,h⟩
def LQ (h:PE X e te):PO X (some e) (U0 te):=by
 intro af s σ H Q I hw;rw[evalPart_some];refine bD (h af s σ H _ I hw) λu s1 ⟨x,M,O,r1,a⟩=>?_;obtain⟨i,rfl,q⟩:=a;obtain⟨t,rfl⟩:=r1;exact⟨some i,M,O,.int i t,q⟩
def GL (X:Cx)(r:V->OI->OI->Hp->VK->Prop):Prop:=
 ∀(af:AO)(s:Shared)(σ:St)(H:Hp)(x:V)(v vl M:Value)(lo hi:OI)(sl:Addr)(Q:VK),Inv X af σ H s->aD x v->s.heap.IsSliceOf sl vl M .none->IsPart vl lo->IsPart M hi->r x lo hi H Q ->
  ∃T id,typeLookup (.type T) "__getitem__" = pure (some (.builtin id))/\s.TypeIs v T/\wq X (getItem v (.ref sl)) (EP X af σ Q) X.xe s
def GL.or (h:GL X r)(h':GL X r'):GL X (λx lo hi H Q=>r x lo hi H Q\/r' x lo hi H Q):=by
 intro af s σ H x v vl M lo hi sl Q I O hs pl a q;rcases q with q|q
 .exact h af s σ H x v vl M lo hi sl Q I O hs pl a q
 .exact h' af s σ H x v vl M lo hi sl Q I O hs pl a q
def tSl (r:V->OI->OI->Hp->VK->Prop)(te:TE)(tl th:TO):TE:=λσ H Q=>te σ H λx M=>tl σ M λl H2=>th σ H2 λu O=>r x l u O Q
def Hm (hr:GL X r)(he:PE X e te)(hl:PO X lo tl)(hu:PO X hi th):PE X (.Subscript e (.Slice lo hi none p2) pos) (tSl r te tl th):=by
 intro af s σ H Q I h;refine Subscript_ (bD (he af s σ H _ I h) λv s1 ⟨x,c,d,r1,f⟩=>?_);refine wpAny_Slice (bD (hl af s1 σ c _ d f) λvl s2 ⟨l,H2,g,pl,q2⟩=>bD (hu af s2 σ H2 _ g q2) λO M ⟨u,a,i,j,k⟩=>?_);rw[evalPart_none];refine wY ?_;have m:Inv X af σ a { M with heap:=M.heap.push { cls:=.type "slice",data:=.fields #[vl,O,.none] } }:=i.kept (t':=M.toks) λb ob q=>vZ _ q;obtain⟨T,id,n,o,p⟩:=hr af { M with heap:=M.heap.push { cls:=.type "slice",data:=.fields #[vl,O,.none] } } σ a x v vl O l u M.z Q m r1 (Heap.IsSliceOf.new ..) pl j k;show wq X (subscriptTail e (.Slice lo hi none p2) v (.ref M.z)) (EP X af σ Q) X.xe { M with heap:=M.heap.push { cls:=.type "slice",data:=.fields #[vl,O,.none] } };exact tail_any (ops:=[.ref M.z,v]) o n p (by with_unfolding_all rfl)
def sy (xs:List V)(lo hi:OI):List V:=(xs.drop (HT.cQ xs.length 0 lo)).take (HT.cQ xs.length xs.length hi - HT.cQ xs.length 0 lo)
def oE (xs:List V)(lo hi:OI):(sy xs lo hi).length<=xs.length:=by
 unfold sy;rw[length_take,List.length_drop];lia
def YR (K:Frag):V->OI->OI->Hp->VK->Prop:=λx lo hi H Q=>∃a xs,x=.ref a/\gN K H a xs /\
 ¬(HT.cQ xs.length 0 lo=0/\HT.cQ xs.length xs.length hi=xs.length)/\∀p,H p=none->Q (.ref p) (upd H p (.tup (sy xs lo hi)))
def Qt:GL X (YR X.K):=by
 intro af s σ H x v vl f lo hi sl Q I c hs pl d h;obtain⟨a,xs,rfl,hx,hw,q⟩:=h;cases c
 refine I.tupE hx λits r O hz=>?_;have M:its.toArray.size=xs.length:=by rw[vH];exact r.length.symm
 refine⟨"tuple",_,PyProof.Rows.slot_tuple_getitem.lookup,O.typeIs,?_⟩;refine HT.mn O hs pl d (by rw[M];exact hw) ?_ (by rw[M];exact hz);rw[M];refine⟨.ref s.z,_,I.laid (t':=s.toks) (o:=.tup (sy xs lo hi)) (λb ob q=>vZ _ q) (vT _) ?_,rr,q _ (I.hok.fresh (vT _))⟩;exact⟨vR (oE xs lo hi) hz,_,(r.drop (HT.cQ xs.length 0 lo)).take (HT.cQ xs.length xs.length hi - HT.cQ xs.length 0 lo),IsTup.new _ _⟩
def U1 (K:Frag):R2:=λx y H Q=>∃a b xs ys,x=.ref a/\y=.ref b/\gN K H a xs/\gN K H b ys/\xs≠[]/\xs.length+ys.length<=sizeLine /\
 (ys=[]->Q (.ref a) H)/\(ys≠[]->∀p,H p=none->Q (.ref p) (upd H p (.tup (xs++ys))))
def aL.nil_iff (r:aL xs us):us=[]↔xs=[]:=by
 cases r with
 |nil=>simp
 |cons _ _=>simp
def LR:c8 X (binaryOp .Add) (U1 X.K):=by
 intro af s σ H x y v u Q I c d h;obtain⟨a,b,xs,ys,rfl,rfl,ha,hb,hx,hz,f,q2⟩:=h;cases c
 cases d
 refine I.tupE ha λits r1 g _=>?_;refine I.tupE hb λO M p2 _=>?_;refine HT.LL g p2 (λz=>hx (r1.nil_iff.mp z)) (λz=>⟨.ref a,H,I,rr,f (M.nil_iff.mp z)⟩) (λz=>?_) (by rw[<-r1.length,<-M.length];exact hz);refine⟨.ref s.z,_,I.laid (t':=s.toks) (o:=.tup (xs++ys)) (λb ob q=>vZ _ q) (vT _) ?_,rr,q2 (λw=>z (M.nil_iff.mpr w)) _ (I.hok.fresh (vT _))⟩;exact⟨by rw[uZ];exact hz,_,r1.append M,IsTup.new _ _⟩
end
noncomputable def GN (n:Nat)(i:Int):Option Nat:=if 0<=i then (if i<n then some i.toNat else none)else if -(n:Int)<=i then some (i+n).toNat else none
def ly {α:Type}(xs:List α)(i:Int):Option α:=(GN xs.length i).bind λj=>xs[j]?
def Cf (h:GN n i=some j):seqIndex? i n=some j/\j<n/\-(n:Int)<=i/\i<n:=by
 unfold GN at h;by_cases h0:0<=i
 .rw[if_pos h0]at h;by_cases h1:i<n
  .rw[if_pos h1]at h;have e:i.toNat=j:=vK h;exact⟨by rw[seqIndex_of h0 h1,e],N9,N9,h1⟩
  simp_all
 .rw[if_neg h0]at h;by_cases h1 : -(n:Int)<=i
  .rw[if_pos h1]at h;have e:(i+n).toNat=j:=vK h;exact⟨by rw[seqIndex_neg N9 h1,e],N9,h1,N9⟩
  simp_all
def vp {α:Type}{xs:List α}{i:Int}{v:α}(h:ly xs i=some v):∃j,seqIndex? i xs.length=some j/\xs[j]? = some v/\j<xs.length/\-(xs.length:Int)<=i/\i<xs.length:=by
 unfold ly at h;cases e:GN xs.length i with
 |none=>rw[e]at h;cases h
 |some j=>
  rw[e]at h;obtain⟨h1,h2,h3,h4⟩:=Cf e;exact⟨j,h1,h,h2,h3,h4⟩
def LW {α:Type}{xs:List α}{j:Nat}{v:α}(h:xs[j]? = some v):ly xs (j:Int)=some v:=by
 have hj:j<xs.length:=(vV h).1;simp_all[GN,ly]
def mo (b:Expr):Prop:=∀o i,subscripted b false o i=operate [o,i] (getItem o i)
def Qu (X:Cx)(r:R2):Prop:=
 ∀(O M:Expr)(af:AO)(s:Shared)(σ:St)(H:Hp)(x y:V)(v u:Value)(Q:VK),Inv X af σ H s->aD x v->aD y u->r x y H Q ->
  subscripted M false v u=operate [v,u] (getItem v u)->wq X (subscriptTail O M v u) (EP X af σ Q) X.xe s
def U2 (X:Cx)(id:String)(r:V->List V->Hp->VK->Prop):Prop:=
 ∀(af:AO)(s:Shared)(σ:St)(H:Hp)(x:V)(xs:List V)(v:Value)(us:LU)(Q:VK),Inv X af σ H s->aD x v->aL xs us->r x xs H Q ->
  wq X (call (.builtin id) (v::us)) (EP X af σ Q) X.xe s
section
variable {X:Cx}{a b:Expr}{ta tb:TE}{pos:Pos}
def Hn (hr:Qu X r)(ha:PE X a ta)(hb:PE X b tb)(hs:mo b):PE X (.Subscript a b pos) (Yo r ta tb):=by
 intro af s σ H Q I h;exact Subscript_ (Qg ha hb I h λv u s2 x y H2 M O c q=>hr a b af s2 σ H2 x y v u Q M O c q (hs _ _))
def YS (K:Frag):R2:=λx y H Q=>∃p xs i v,x=.ref p/\y=.int i/\fF K H p xs/\ly xs i=some v/\Q v H
def YT (K:Frag):R2:=λx y H Q=>∃p xs i v,x=.ref p/\y=.int i/\gN K H p xs/\ly xs i=some v/\Q v H
def YU:R2:=λx y H Q=>∃z i c,x=.str z/\y=.int i/\z.length<=sizeLine/\ly z.cps.toList i=some c/\Q (.str ⟨#[c]⟩) H
def LX:Qu X (YS X.K):=by
 intro M O af s σ H x y v u Q I d e h hs;obtain⟨p,xs,i,z,rfl,rfl,hq,he,q⟩:=h;cases d
 obtain⟨t,rfl⟩:=e;refine cX λG g=>?_;refine I.lisE hq λits r pl hz=>?_;obtain⟨j,h1,h2,h3,h4,h5⟩:=vp he;obtain⟨w,c,f⟩:=r.get h2;apply g;have hl:=r.length;have hn:=nL;have dJ:EP X af σ Q w s:=⟨z,H,I,f,q⟩;by_cases h0:0<=i
 .have hj:i.toNat=j:=by
   rw[seqIndex_of h0 h5]at h1;exact vK h1
  exact item_listR pl.isList h0 N9 (by rw[hj];simpa using c) dJ hs
 .have hj:(i+(its.toArray.size:Int)).toNat=j:=by
   rw[seqIndex_neg N9 h4]at h1;rw[vH,<-hl];exact vK h1
  exact subscriptTail_builtinR (x:=w) pl.isList.typeIs slot_list_getitem.lookup
   (wpAny_getItem_list_neg (Q:=λr s'=>r=w/\EP X af σ Q r s') pl.isList N9 (by rw[vH]<;>lia) N9 (by rw[hj];simpa using c) ⟨rr,dJ⟩) hs
def pQ:Qu X (YT X.K):=by
 intro M O af s σ H x y v u Q I c d h hs;obtain⟨p,xs,i,z,rfl,rfl,hq,he,q⟩:=h;cases c
 obtain⟨t,rfl⟩:=d;refine cX λG g=>?_;refine I.tupE hq λits r pl hz=>?_;obtain⟨j,h1,h2,h3,h4,h5⟩:=vp he;obtain⟨w,e,f⟩:=r.get h2;apply g;clear g;have hl:=r.length;have hn:=nL;have dJ:EP X af σ Q w s:=⟨z,H,I,f,q⟩;exact subscriptTail_builtinR (x:=w) pl.typeIs slot_tuple_getitem.lookup
  (getItem_tuple (j:=j) (Q:=λr s'=>r=w/\EP X af σ Q r s') pl N9 N9 (by simp_all) (by simpa using e) ⟨rr,dJ⟩) hs
def AH:Qu X YU:=by
 intro M O af s σ H x y v u Q I d e h hs;obtain⟨z,i,c,rfl,rfl,hz,he,q⟩:=h;obtain⟨t,rfl⟩:=d;obtain⟨t',rfl⟩:=e;obtain⟨j,h1,h2,h3,h4,h5⟩:=vp he;have hl:z.cps.toList.length=z.length:=by simp[Str.length]
 rw[hl]at h1 h4 h5;have hn:=nL;exact tail_any (typeIs_str s z t) slot_str_getitem.lookup (getItem_str (c:=c) (by
  lia) (by rw[h1];simpa using h2) ⟨.str ⟨#[c]⟩,H,I.tok _,⟨_,rr⟩,q⟩) hs
def AI (its:LU)(n j:Nat)(u:Value):Obj.mapSeq (·.setIfInBounds j u) { cls:=.type "list",data:=.seq its.toArray n }={ cls:=.type "list",data:=.seq (its.set j u).toArray n }:=by
 simp[Obj.mapSeq]
def Inv.lst (I:Inv X af σ H s)(h:H p=some (.lst xs)):
  ∃(its:LU)(n:Nat),aL xs its/\s.heap.get? p=some { cls:=.type "list",data:=.seq its.toArray n }/\xs.length<=sizeLine:=by
 obtain⟨z,its,n,r,e⟩:=I.hok p _ h;exact⟨its,n,r,e,z⟩
def Inv.lstUpd {af:AO}{σ:St}{H:Hp}{s:Shared}{p:Addr}{xs ys:List V}{its its':LU}{n M:Nat}{f:Obj->Obj}(I:Inv X af σ H s)(h:H p=some (.lst xs))
  (ho:s.heap.get? p=some { cls:=.type "list",data:=.seq its.toArray n }) (hf:f { cls:=.type "list",data:=.seq its.toArray n }={ cls:=.type "list",data:=.seq its'.toArray M }) (r:aL ys its') (hz:ys.length<=sizeLine) (t:Nat):
  Inv X af σ (upd H p (.lst ys)) { s with heap:=s.heap.update p f,toks:=t }:=by
 have e:(s.heap.update p f).get? p=some { cls:=.type "list",data:=.seq its'.toArray M }:=by
  rw[Heap.get?_update_self f ho (by rw[hf]<;>rfl),hf]
 refine I.write (x:=p) (e:=p) (by rw[h];trivial) (.inl rr) (λb u hb q=>(Heap.get?_update_other _ _ (Ne.symm hb)).trans q) ⟨_,e⟩ ?_;exact⟨hz,its',M,r,e⟩
def U3:V->V->V->Hp->(Hp->Prop)->Prop:=λo i v H Q=>∃p xs k j,o=.ref p/\i=.int k/\H p=some (.lst xs)/\GN xs.length k=some j/\Q (upd H p (.lst (xs.set j v)))
def Ho:Ud X U3:=by
 intro af s σ H o i v d iv u Q I O c rv h;obtain⟨p,xs,k,j,rfl,rfl,hp,hj,q⟩:=h;cases O
 obtain⟨t,rfl⟩:=c;obtain⟨its,n,r,ho,hz⟩:=I.lst hp;obtain⟨h1,h2,h3,h4⟩:=Cf hj;have hl:=r.length;have hn:=nL;have M:Inv X af σ (upd H p (.lst (xs.set j v))) { s with heap:=s.heap.update p (Obj.mapSeq (·.setIfInBounds j u)) } :=
  I.lstUpd hp ho (AI its n j u) (r.set rv j) (by rw[length_set];exact hz) s.toks
 by_cases h0:0<=k
 .have hk:k.toNat=j:=by
   rw[seqIndex_of h0 h4]at h1;exact vK h1
  exact PySem.W.ki_setAt ho h0 N9 (by rw[vH,<-hl];exact h4) (by rw[hk];exact⟨_,M,q⟩)
 .have hk:(k+(its.toArray.size:Int)).toNat=j:=by
   rw[seqIndex_neg N9 h3]at h1;rw[vH,<-hl];exact vK h1
  exact PySem.W.ki_setBack ho N9 (by rw[vH,<-hl];exact h3) N9 (by rw[hk];exact⟨_,M,q⟩)
def xx10 (i:Int)(n:Nat):max 0 (min (if i<0 then i+n else i) n)=(((if i<0 then (i+n).toNat else min i.toNat n):Nat):Int):=by
 split
 .rw[Int.min_eq_left (by lia),Int.ofNat_toNat,Int.max_comm]
 .rename_i h;obtain⟨k,rfl⟩:=Int.eq_ofNat_of_zero_le (Int.not_lt.mp h);rw[Int.toNat_natCast,Int.max_eq_right (Int.le_min.mpr ⟨Int.not_lt.mp h,Int.natCast_nonneg n⟩)];rcases Nat.le_total k n with z|z
  .rw[Nat.min_eq_left z,Int.min_eq_left (Int.ofNat_le.mpr z)]
  .rw[Nat.min_eq_right z,Int.min_eq_right (Int.ofNat_le.mpr z)]
def vq (lo hi:OI)(n:Nat):(sliceBounds lo hi none n).1=((HT.cQ n 0 lo:Nat):Int)/\(sliceBounds lo hi none n).2.1=((HT.cQ n n hi:Nat):Int)/\(sliceBounds lo hi none n).2.2=1:=by
 refine⟨?_,?_,rr⟩
 .cases lo with
  |none=>rfl
  |some i=>exact xx10 i n
 .cases hi with
  |none=>rfl
  |some i=>exact xx10 i n
def sA (its:LU)(lo hi:OI):slicePick its.toArray lo hi none=((its.drop (HT.cQ its.length 0 lo)).take (HT.cQ its.length its.length hi - HT.cQ its.length 0 lo)).toArray:=by
 obtain⟨h1,h2,h3⟩:=vq lo hi its.toArray.size;unfold slicePick;rw[h1,h2,h3];simp only[sliceRange_one,pick_run,vH]<;>rfl
def YV (K:Frag):V->OI->OI->Hp->VK->Prop:=λx lo hi H Q=>∃a xs,x=.ref a/\fF K H a xs/\∀p,H p=none->Q (.ref p) (upd H p (.lst (sy xs lo hi)))
def LY:GL X (YV X.K):=by
 intro af s σ H x v vl e lo hi sl Q I c hs pl d h;obtain⟨a,xs,rfl,hx,q⟩:=h;cases c
 refine I.lisE hx λits r O hz=>?_;have M:=r.length;refine⟨"list",_,slot_list_getitem.lookup,O.isList.typeIs,?_⟩;refine wpAny_getItem_list_slice O.isList hs pl d .none X9 ?_ (by rw[vH]<;>lia)
 rw[sA,<-M];refine⟨.ref s.z,_,I.laid (t':=s.toks) (o:=.lst (sy xs lo hi)) (λb ob q=>vZ _ q) (vT _) ?_,rr,q _ (I.hok.fresh (vT _))⟩;exact⟨vR (oE xs lo hi) hz,_,0,(r.drop (HT.cQ xs.length 0 lo)).take (HT.cQ xs.length xs.length hi - HT.cQ xs.length 0 lo),vY _ rr⟩
noncomputable def lg:V->Bool
 |.non=>true
 |.bl _=>true
 |.int _=>true
 |.str _=>true
 |_=>false
noncomputable def LZ:V->V->Bool
 |.non,.non=>true
 |.bl a,.bl b=>a == b
 |.bl a,.int b=>(if a then 1 else 0) == b
 |.int a,.bl b=>a == (if b then 1 else 0)
 |.int a,.int b=>a == b
 |.str a,.str b=>a == b
 |_,_=>false
def Qv (O:aD y u)(M:aD x v)(c:lg y=true)(fx:lg x=true):SeqAt.EqAt A s u v (LZ y x):=by
 cases y with
 |non=>
  cases O
  cases x with
  |non=>cases M;exact SeqAt.EqAt.same _
  |bl b=>cases M;exact SeqAt.EqAt.none_bool b
  |int b=>obtain⟨t,rfl⟩:=M;exact SeqAt.EqAt.none_int b t
  |str b=>obtain⟨t,rfl⟩:=M;exact SeqAt.EqAt.none_str b t
  |_=>exact absurd (show false=true from fx) uX
 |bl a=>
  cases O
  cases x with
  |non=>cases M;exact SeqAt.EqAt.bool_none a
  |bl b=>cases M;exact SeqAt.EqAt.bool_bool a b
  |int b=>obtain⟨t,rfl⟩:=M;exact SeqAt.EqAt.bool_int a b t
  |str b=>obtain⟨t,rfl⟩:=M;exact SeqAt.EqAt.bool_str a b t
  |_=>exact absurd (show false=true from fx) uX
 |int a=>
  obtain⟨t',rfl⟩:=O;cases x with
  |non=>cases M;exact SeqAt.EqAt.int_none a t'
  |bl b=>cases M;exact SeqAt.EqAt.int_bool a t' b
  |int b=>obtain⟨t,rfl⟩:=M;exact SeqAt.EqAt.int_int a t' b t
  |str b=>obtain⟨t,rfl⟩:=M;exact SeqAt.EqAt.int_str a t' b t
  |_=>exact absurd (show false=true from fx) uX
 |str a=>
  obtain⟨t',rfl⟩:=O;cases x with
  |non=>cases M;exact SeqAt.EqAt.str_none a t'
  |bl b=>cases M;exact SeqAt.EqAt.str_bool a t' b
  |int b=>obtain⟨t,rfl⟩:=M;exact SeqAt.EqAt.str_int a t' b t
  |str b=>obtain⟨t,rfl⟩:=M;exact SeqAt.EqAt.str_str a t' b t
  |_=>exact absurd (show false=true from fx) uX
 |_=>exact absurd (show false=true from c) uX
noncomputable def AJ (x:V)(u:Value):Bool:=match u with
 |.none=>LZ .non x
 |.bool b=>LZ (.bl b) x
 |.int i _=>LZ (.int i) x
 |.str z _=>LZ (.str z) x
 |_=>false
def Hq (r:aD y u)(f:lg y=true):AJ x u=LZ y x:=by
 cases y with
 |non=>cases r;rfl
 |bl b=>cases r;rfl
 |int i=>obtain⟨t,rfl⟩:=r;rfl
 |str z=>obtain⟨t,rfl⟩:=r;rfl
 |_=>exact absurd (show false=true from f) uX
theorem mq:∀ {xs:List V}{us:LU},aL xs us->xs.all lg=true->us.any (AJ x)=xs.any λy=>LZ y x
 |_,_,.nil,_=>rr
 |y::xs,u::us,.cons r t,f=>by
  rw[all_cons,vC]at f;rw[any_cons,any_cons,Hq r f.1,mq t f.2]
theorem j0 (M:aD x v)(fx:lg x=true):∀ {xs:List V}{us:LU},aL xs us->xs.all lg=true->∀u∈us,SeqAt.EqAt A s u v (AJ x u)
 |_,_,.nil,_=>λu hu=>by cases hu
 |y::xs,u::us,.cons r t,f=>λu' hu=>by
  rw[all_cons,vC]at f;rcases vP hu with rfl|hu
  .rw[Hq r f.1];exact Qv r M f.1 fx
  .exact j0 M fx t f.2 u' hu
noncomputable def Yp (x:V)(xs:List V):Bool:=xs.any λy=>LZ y x
def rIn (K:Frag)(M:Bool):R2:=λx y H Q=>∃p xs,y=.ref p/\(fF K H p xs\/gN K H p xs)/\lg x=true/\xs.all lg=true/\Q (.bl (if M then !Yp x xs else Yp x xs)) H
def Ff:c8 X (compareOp .In) (rIn X.K false):=by
 intro af s σ H x y v u Q I M O h;obtain⟨p,xs,rfl,hq,fx,fs,q⟩:=h;cases O
 rcases hq with hq|hq
 .refine I.lisE hq λits r pl hz=>?_;refine SeqAt.in_listAt (AJ x) pl.isList (λw hw=>j0 M fx r fs w (by simpa using hw)) ⟨.bl _,H,I,rr,?_⟩;rw[show its.toArray.any (AJ x)=its.any (AJ x) by simp,mq r fs];exact q
 .refine I.tupE hq λits r pl hz=>?_;refine SeqAt.in_tupleAt (AJ x) pl (λw hw=>j0 M fx r fs w (by simpa using hw)) ⟨.bl _,H,I,rr,?_⟩;rw[show its.toArray.any (AJ x)=its.any (AJ x) by simp,mq r fs];exact q
def vt:c8 X (compareOp .NotIn) (rIn X.K true):=by
 intro af s σ H x y v u Q I M O h;obtain⟨p,xs,rfl,hq,fx,fs,q⟩:=h;cases O
 rcases hq with hq|hq
 .refine I.lisE hq λits r pl hz=>?_;refine SeqAt.notIn_listAt (AJ x) pl.isList (λw hw=>j0 M fx r fs w (by simpa using hw)) ⟨.bl _,H,I,rr,?_⟩;rw[show its.toArray.any (AJ x)=its.any (AJ x) by simp,mq r fs];exact q
 .refine I.tupE hq λits r pl hz=>?_;refine SeqAt.notIn_tupleAt (AJ x) pl (λw hw=>j0 M fx r fs w (by simpa using hw)) ⟨.bl _,H,I,rr,?_⟩;rw[show its.toArray.any (AJ x)=its.any (AJ x) by simp,mq r fs];exact q
def vv:bu X (.builtin "len") (λxs H Q=>∃p ys,xs=[.ref p]/\(fF X.K H p ys\/gN X.K H p ys)/\Q (.int ys.length) H):=by
 intro af s σ H xs us Q I r h;obtain⟨p,ys,rfl,hq,q⟩:=h;obtain⟨u,rfl,c⟩:=eB r;cases c
 have hn:=nL;rcases hq with hq|hq
 .refine I.lisE hq λits O pl hz=>?_;have M:=O.length;exact Calls.call_len_list pl.isList (by grind) ⟨.int ys.length,H,I.tok _,⟨s.toks+1,by rw[vH,M]⟩,q⟩
 .refine I.tupE hq λits O pl hz=>?_;have M:=O.length;exact len_tuple pl (by grind) ⟨.int ys.length,H,I.tok _,⟨s.toks+1,by rw[vH,M]⟩,q⟩
def vw:bu X (.builtin "len") (λxs H Q=>∃z,xs=[.str z]/\z.length<=sizeLine/\Q (.int z.length) H):=by
 intro af s σ H xs us Q I r h;obtain⟨z,rfl,hz,q⟩:=h;obtain⟨u,rfl,t,rfl⟩:=eB r;have hn:=nL;exact len_str N9 ⟨.int z.length,H,I.tok _,⟨_,rr⟩,q⟩
def bu.or (h:bu X f r)(h':bu X f M):bu X f (λxs H Q=>r xs H Q\/M xs H Q):=by
 intro af s σ H xs us Q I rs q;rcases q with q|q
 .exact h af s σ H xs us Q I rs q
 .exact h' af s σ H xs us Q I rs q
def vx:bu X (.type "list") (λxs H Q=>∃p ys,xs=[.ref p]/\(fF X.K H p ys\/gN X.K H p ys)/\∀l,H l=none->Q (.ref l) (upd H l (.lst ys))):=by
 intro af s σ H xs us Q I r h;obtain⟨p,ys,rfl,hq,q⟩:=h;obtain⟨u,rfl,c⟩:=eB r;cases c
 have dJ:∀(its:LU),aL ys its->ys.length<=sizeLine->∀(h':Heap)(M:Nat),(∀b o',s.heap.get? b=some o'->h'.get? b=some o') ->
   h'.get? s.z=some { cls:=.type "list",dict:=none,data:=.seq its.toArray M,slots:=#[] }->EP X af σ Q (.ref s.z) { s with heap:=h' }:=λits O hz h' M kp e=>
  ⟨.ref s.z,_,I.laid (t':=s.toks) kp (vT _) (show bj X.prog X.w _ h' _ (.lst ys)from ⟨hz,its,M,O,e⟩),rr,q _ (I.hok.fresh (vT _))⟩
 rcases hq with hq|hq
 .refine I.lisE hq λits O pl hz=>?_;have d:=O.length;obtain⟨o,ho,hc,n,hd⟩:=pl.isList;exact call_list_seq p (.inl rr) ho hc hd (λh' M kp e=>dJ its O hz h' M kp e) (by simp_all)
 .refine I.tupE hq λits O pl hz=>?_;have d:=O.length;obtain⟨o,ho,hc,n,hd⟩:=pl;exact call_list_seq p (.inr rr) ho hc hd (λh' M kp e=>dJ its O hz h' M kp e) (by simp_all)
def sC:bu X (.type "tuple") (λxs H Q=>∃p ys,xs=[.ref p]/\((fF X.K H p ys/\∀l,H l=none->Q (.ref l) (upd H l (.tup ys)))\/(gN X.K H p ys/\Q (.ref p) H))):=by
 intro af s σ H xs us Q I r h;obtain⟨p,ys,rfl,h⟩:=h;obtain⟨u,rfl,d⟩:=eB r;cases d
 rcases h with⟨hq,q⟩|⟨hq,q⟩
 .refine I.lisE hq λits M pl hz=>?_;have O:=M.length;refine call_tuple_list pl.isList (λh' kp=>?_) (by simp_all);have c:Inv X af σ H { s with heap:=h' }:=I.kept (t':=s.toks) kp;have f:Inv X af σ (upd H h'.objs.size (.tup ys)) { s with heap:=h'.push { cls:=.type "tuple",data:=.seq its.toArray } } :=
   c.laid (t':=s.toks) (λb o e=>vZ _ e) (vT _) (show bj X.prog X.w _ _ _ (.tup ys)from ⟨hz,its,M,IsTup.new _ _⟩)
  exact⟨.ref h'.objs.size,_,f,rr,q _ (c.hok.fresh (vT _))⟩
 .refine I.tupE hq λits M pl hz=>?_;exact call_tuple_same pl ⟨.ref p,H,I,rr,q⟩
def tyV (K:Frag)(T:String)(x:V)(H:Hp):Prop:=match x with
 |.str _=>T = "str"
 |.int _=>T = "int"
 |.ref p=>(T = "list"/\∃xs,fF K H p xs)\/(T = "tuple"/\∃o,K.lookup p=some o/\o.cls=.type "tuple"/\o.dict=none) \/
   (T = "dict"/\((∃a9 ob,H p=some (.dK a9 ob))\/∃a9,H p=some (.dT a9)))\/(T = "set"/\∃S n,H p=some (.set S n))
 |_=>False
def AK (I:Inv X af σ H s)(r:aD x v)(ty:tyV X.K T x H):
  s.TypeIs v T/\∀a,v=.ref a->∃ob,s.heap.get? a=some ob/\ob.dict=none:=by
 cases x with
 |str z=>
  obtain⟨t,rfl⟩:=r;cases (show T = "str" from ty)
  simp_all[typeIs_str]
 |int i=>
  obtain⟨t,rfl⟩:=r;cases (show T = "int" from ty)
  simp_all[typeIs_int]
 |ref p=>
  cases r
  rcases ty with⟨rfl,xs,hq⟩|⟨rfl,o,hk,hc,hd⟩|⟨rfl,hk⟩|⟨rfl,S,n,hk⟩
  .refine I.lisE hq λits _ pl _=>?_;refine⟨pl.isList.typeIs,λa e=>?_⟩;cases e
   obtain⟨o,n,e,c,hd,_⟩:=pl;exact⟨o,e,hd⟩
  .refine⟨⟨o,I.kIn p o hk,hc⟩,λa e=>?_⟩;cases e
   exact⟨o,I.kIn _ o hk,hd⟩
  .have z:∃o,s.heap.get? p=some o/\o.ExactDict:=by
    rcases hk with⟨a9,M,hk⟩|⟨a9,hk⟩
    .refine cX λG g=>?_;obtain⟨_,_,_,_,_,o,_,_,e,ex,_⟩:=I.hok p _ hk;apply g;clear g;exact⟨o,e,ex⟩
    .refine cX λG g=>?_;obtain⟨_,_,_,_,o,_,_,e,ex,_⟩:=I.hok p _ hk;apply g;clear g;exact⟨o,e,ex⟩
   obtain⟨o,e,ex⟩:=z;refine⟨⟨o,e,ex.1⟩,λa e2=>?_⟩;cases e2
   exact⟨o,e,ex.2.1⟩
  .obtain⟨o,_,_,_,e,ex,_⟩:=I.hok p _ hk;refine⟨⟨o,e,ex.1⟩,λa e2=>?_⟩;cases e2
   exact⟨o,e,ex.2.1⟩
 |_=>exact False.elim ty
def tBM (K:Frag)(T:String)(r:V->List V->Hp->VK->Prop)(to:TE)(t:TA):TE:=λσ H Q=>to σ H λx M=>tyV K T x M/\t σ M λxs H2=>r x xs H2 Q
variable {o e:Expr}{es:QD}{to:TE}{t:TA}{name:Str}{cb bA:Pos}{T id:String}{r:V->List V->Hp->VK->Prop}
def xP (g:PlainAttrs T)(slot:Slot T name id)(c:typeOf (.builtin id)=pure (.type "method_descriptor"))(hm:U2 X id r)(ho:PE X o to)(ha:PA X (e::es) t)
  (O:attributeBase o name X.env (eval o X.env)=eval o X.env:=by rfl)
  (i:((backTo bA (starEach (e::es) X.env)).all (λx=>!x.1) && (backToKw bA (keywordEach [] X.env)).all (λx=>x.1.isSome)
   && decide ((e::es).length+([]:List Keyword).length+(if([]:List Keyword).isEmpty then 0 else 1)<30))=true:=by rfl)
  (j:(cb.endLine == bA.line)=true:=by rfl) (hs:starEach (e::es) X.env=(false,eval e X.env)::starEach es X.env:=by rfl) (M:(backTo bA (starEach es X.env)).any (·.1)=false:=by rfl):
  PE X (.Call (.Attribute o name cb) (e::es) [] bA) (tBM X.K T r to t):=by
 intro af s σ H Q I h;refine wpAny_Call_method_late O i j rr (bD (ho af s σ H _ I h) λv s1 ⟨x,k,d,r1,ty,l⟩=>?_);obtain⟨h1,h2⟩:=AK d r1 ty;refine⟨T,id,g,slot,c,h1,h2,?_⟩;have f:=ha bA af s1 σ k _ d l;rw[hs]at f |-;refine Calls.callWith_builtin (by show(false || (backTo bA (starEach es X.env)).any (·.1))=false;rw[M]<;>rfl) (Calls.evalArgs_plain ?_)
 exact bD f λus s2 ⟨vs,H2,m,n,q2⟩=>hm af s2 σ H2 x vs v us Q m r1 n q2
/- xs.append(e),list.index on a module's tuple .. are U2 facts of 06m -/
end
def YW (X:Cx)(id:String)(r:V->List V->Hp->VK->Prop):Prop:=
 ∀(af:AO)(s:Shared)(σ:St)(H:Hp)(x:V)(xs:List V)(v:Value)(us:LU)(Q:VK),Inv X af σ H s->aD x v->aL xs us->r x xs H Q ->
  wq X (call (.builtin id) (v::us)) (EP X af σ Q) X.xe s
theorem aL.one {x:V}{us:LU}(h:aL [x] us):∃u,us=[u]/\aD x u:=by
 cases h with
 |cons r h=>cases h;exact⟨_,rr,r⟩
def aL.two {x y:V}{us:LU}(h:aL [x,y] us):∃u v,us=[u,v]/\aD x u/\aD y v:=by
 cases h with
 |cons r h=>
  grind[aL.one]
theorem aL.zero:∀ {us:LU},aL [] us->us=[]
 |_,.nil=>rr
section
variable {X:Cx}{af:AO}{σ:St}{H:Hp}{s:Shared}{l b:Addr}{xs ys zs:List V}
def Inv.lset {its its':LU}{n:Nat}{f:AV->AV}{t':Nat}(I:Inv X af σ H s)(M:H l=some (.lst xs))
  (e:s.heap.get? l=some { cls:=.type "list",data:=.seq its.toArray n }) (hf:f its.toArray=its'.toArray) (hv:aL ys its') (hz:ys.length<=sizeLine):
  Inv X af σ (upd H l (.lst ys)) { s with heap:=s.heap.update l (Obj.mapSeq f),toks:=t' }:=by
 have q:=PySem.IsL.update e f;rw[hf]at q;refine I.write (x:=l) (e:=l) (by rw[M];exact trivial) (.inl rr) (λb' u hb hu=>(Heap.get?_update_other s.heap (Obj.mapSeq f) (Ne.symm hb)).trans hu) ⟨_,q⟩ ?_;exact⟨hz,its',_,hv,q⟩
def Inv.lnew (I:Inv X af σ H s)(hv:aL ys its)(hz:ys.length<=sizeLine):
  Inv X af σ (upd H s.z (.lst ys)) { s with heap:=s.heap.push { cls:=.type "list",data:=.seq its.toArray },toks:=t' } :=
 I.laid (λ_ _ q=>vZ _ q) (vT _) ⟨hz,its,0,hv,vY _ rr⟩
def Inv.fresh (I:Inv X af σ H s):H s.z=none:=I.hok.fresh (vT _)
def Inv.lstM (I:Inv X af σ H s)(M:H l=some (.lst xs)):xs.length<=sizeLine/\∃(its:LU)(n:Nat),aL xs its/\xs.length=its.length/\s.heap.get? l=some { cls:=.type "list",data:=.seq its.toArray n }:=by
 obtain⟨z,its,n,r,e⟩:=I.hok l _ M;exact⟨z,its,n,r,r.length,e⟩
def Hr (h:n<=sizeLine):Builtin.List.listTooLong n=false:=by
 simp_all[Builtin.List.listTooLong]
end
section
variable {X:Cx}
def Cg:V->List V->Hp->VK->Prop:=λx vs H Q=>∃l xs y,x=.ref l/\vs=[y]/\H l=some (.lst xs)/\xs.length<sizeLine/\Q .non (upd H l (.lst (xs++[y])))
def t8:YW X "list.append" Cg:=by
 intro af s σ H x vs v us Q I O rv h;obtain⟨l,xs,y,rfl,rfl,M,hz,q⟩:=h;cases O
 obtain⟨u,rfl,ru⟩:=rv.one;obtain⟨z,its,n,r,hl,e⟩:=I.lstM M;refine call_meets F.slot_list_append ⟨_,e,rr⟩ F.entry_list_append (F.args_list_append_2 _ _) (PySem.list_append l its.toArray n u (by rw[vH];lia)) ⟨e,?_⟩;refine⟨.non,_,I.lset (its':=its++[u]) M e X9 (r.append (.cons ru .nil)) ?_,rr,q⟩;simp<;>lia
def Ma:V->List V->Hp->VK->Prop:=λx vs H Q=>∃l b xs zs,x=.ref l/\vs=[.ref b]/\H l=some (.lst xs)/\H b=some (.lst zs)/\xs.length+zs.length<=sizeLine/\Q .non (upd H l (.lst (xs++zs)))
def Fg:YW X "list.extend" Ma:=by
 intro af s σ H x vs v us Q I c rv h;obtain⟨l,b,xs,zs,rfl,rfl,a,d,hz,q⟩:=h;cases c
 obtain⟨u,rfl,ru⟩:=rv.one;cases ru
 refine cX λG K=>?_;obtain⟨z,its,n,r,hl,e⟩:=I.lstM a;obtain⟨g,M,n2,f,i,e2⟩:=I.lstM d;apply K;clear K;have hsz:its.toArray.size+M.toArray.size<=sizeLine:=by simp_all
 have O:¬(!its.toArray.isEmpty && Builtin.List.listTooLong (its.toArray.size+M.toArray.size))=true:=by
  simp_all[Hr]
 refine call_meets F.slot_list_extend ⟨_,e,rr⟩ F.entry_list_extend (F.args_list_extend_2 _ _)
  (AutoSeq1.list_extend_list_list_0 l its.toArray n b M.toArray n2 O (by rw[vH];lia) N9) ⟨e,e2,?_⟩
 refine⟨.non,_,I.lset (its':=its++M) a e X9 (r.append f) ?_,rr,q⟩;simp_all
end
end L2
namespace Att
open PySem PySem.W PySem.Calls PyProof.Rows
def pi:∀(ns:LI)(vs:LU),WellAll P h vs (ns.map WData.int)->IntsAre vs ns:=by
 intro ns;induction ns with
 |nil=>
  intro vs w;rw[List.map_nil]at w;cases w
  exact .nil
 |cons n ns M=>
  intro vs w;rw[uY]at w;cases w with
  |cons a b=>
   cases a
   exact .cons _ _ (M _ b)
def Fh {l:OpenLaw}{n:Nat}(hn:l.most=some n){P:Params}{h:Heap}{args:List WData}{vals:LU}
  (M:l.row.toRowW.claim.pre args=true) (b:WellAll P h vals args):
  ∃a vs ns,vals=[Value.ref a]/\args=[WData.list (ns.map WData.int)]/\h.get? a=some { cls:=.type "list",data:=.seq vs.toArray }/\IntsAre vs ns/\ns.length<=n:=by
 have c:WShape.hasAll [] args [.list .int]=true:=(pre_splitW M).1;have hc:l.pre.holds [] { args:=args }=true:=(pre_splitW M).2;obtain⟨d,r,rfl,h1,h2⟩:=hasAllW_cons c;obtain rfl:=hasAllW_nil h2;obtain⟨xs,rfl,h3⟩:=hasW_list h1;obtain⟨ns,rfl⟩:=items_int h3;have O:ns.length<=n:=by
  unfold OpenLaw.pre at hc;have h4:(WTm.not (.lt (.lit (.int (n:Int))) (.len (.arg 0)))).holds [] { args:=[.list (ns.map .int)] }=true:=by
   have h4:=(holds_andW hc).1;rw[hn]at h4;exact h4
  have h5:=condW_of h4 (w_not (w_lt w_lit (w_len_list (w_arg rr))));simp_all
 cases b with
 |cons e f=>
  cases f
  cases e with
  |list ho g=>exact⟨_,_,ns,rr,rr,ho,pi ns _ g,O⟩
def Fi (l:OpenLaw)(args:List WData):l.row.toRowW.claim.post args (.bool true) args=true:=
 postW_of (r:=l.row.toRowW) (X:=(true == true))
  (show WShape.has [] (.bool true) .bool=true by rfl)
  (show(WTm.eq .res (.lit (.bool true))).value [] { args:=args,res:=some (.bool true),after:=args }=some (.bool (true == true))from w_eq_bool (w_res rr) w_lit) rr
section
variable {prog:Program}{w:World}{A:Around}{E:QV}{s:Shared}{K:Frag}
end
end Att
namespace L2
open PySem PySem.Spec PyProof.Rows
theorem iC:∀ {vs:LU}{ns:LI},IntsAre vs ns->aL (ns.map V.int) vs
 |_,_,.nil=>.nil
 |_,_,.cons n t h=>.cons ⟨t,rr⟩ (iC h)
noncomputable def fG (s:Stmt):Arguments:=match s with
 |.FunctionDef _ a _ _ _ _ _ _ _ _=>a
 |_=>{ posonlyargs:=[],args:=[],vararg:=none,kwonlyargs:=[],kw_defaults:=[],kwarg:=none,defaults:=[] }
noncomputable def bM (s:Stmt):List Stmt:=match s with
 |.FunctionDef _ _ b _ _ _ _ _ _ _=>b
 |_=>[]
noncomputable def aE (s:Stmt):Scope:=match s with
 |.FunctionDef _ _ _ _ _ _ sc _ _ _=>sc
 |_=>{ kind:=.function,names:=[],isGenerator:=false,isCoroutine:=false }
abbrev A2:OG:=λ_ _ _ _ _ _=>False
abbrev E0:XK:=λ_ _ _=>False
def U5:AE A2 X E0:=λ_ _ _ _ _ _ _ h=>h.elim
structure S5 (K:Frag)(x qual:Str)(st:Stmt)(f:Addr)(fd:FuncData):Prop where
 ex:∃(oc:Value)(od:Option Addr)(kV doc pm:Value)(an:Option Addr)(dF ct:Value)(nJ:Array (Option Value)),
  fd=fnOf x qual (fG st) (bM st) (aE st) .none kV doc pm an dF ct/\K.lookup f=some ⟨oc,od,.func fd,nJ⟩/\PySem.W.codeIn K dF qual=true
 kp:PySem.W.keepIn K (.ref f)=true
section
variable {P:Program}{w:World}{K:Frag}{mg:SV}{base:Heap}
def S5.ok {x qual:Str}{st:Stmt}{f:Addr}{fd:FuncData}{N ps:LS}{k:Nat}{sp:Sp}(F:S5 K x qual st f fd)(S:FnScope N ps (aE st))(len:∀vs H Q E,sp vs H Q E->vs.length=ps.length)
  (M:∀(dF:Value)(A:Around)(outer:List Env)(s:Shared)(H:Hp)(vs:List V)(Q:VK)(E:XK),dr k (A.deeper (envOfC qual (aE st) s.z f dF))->sp vs H Q E ->
   ∃t,tj (pN A2 P w K mg base N qual (aE st) f dF A outer s H E).nox (bM st) t/\t { nx:=λ_ H'=>Q .non H',rt:=Q } (lf N vs) H):sk P w K mg base A2 (k+1) f fd ps sp:=by
 obtain⟨oc,od,kV,doc,pm,an,dF,ct,nJ,rfl,lk,O⟩:=F.ex;refine OH lk O S len λA outer s H vs Q E hr a=>?_;obtain⟨t,h,q⟩:=M dF A outer s H vs Q E hr a;exact⟨t,h.nox,q⟩
def S5.binds {x qual:Str}{st:Stmt}{f:Addr}{fd:FuncData}{ps:LS}(F:S5 K x qual st f fd)
  (h:∀(kV doc pm:Value)(an:Option Addr)(dF ct:Value)(us:LU),us.length=ps.length->bindArgs (fnOf x qual (fG st) (bM st) (aE st) .none kV doc pm an dF ct) ⟨us,[]⟩=pure (ps.zip us)):oD K fd ps []:=by
 obtain⟨oc,od,kV,doc,pm,an,dF,ct,nJ,rfl,lk,M⟩:=F.ex;exact .all (h kV doc pm an dF ct)
def Qw {x qual:Str}{st:Stmt}{f:Addr}{oc:Value}{od an:Option Addr}{nJ:Array (Option Value)}{kV doc pm dF ct:Value}(l:K.lookup f=some ⟨oc,od,.func (fnOf x qual (fG st) (bM st) (aE st) .none kV doc pm an dF ct),nJ⟩)
  (c:PySem.W.codeIn K dF qual=true) (k:PySem.W.keepIn K (.ref f)=true):S5 K x qual st f (fnOf x qual (fG st) (bM st) (aE st) .none kV doc pm an dF ct):=⟨⟨oc,od,kV,doc,pm,an,dF,ct,nJ,rr,l,c⟩,k⟩
end
def aH (H H':Hp):Prop:=∀b o,H b=some o->H' b=some o
def aH.refl (H:Hp):aH H H:=λ_ _ h=>h
def aH.trans (a:aH H M)(b:aH M H2):aH H H2:=λc o h=>b c o (a c o h)
def aH.free (e:aH H H')(h:H' l=Option.none):H l=Option.none:=by
 cases q:H l with
 |none=>rfl
 |some o=>
  rw[e l o q]at h;cases h
def aH.seq {K:Frag}{H H':Hp}{a:Addr}{xs:List V}(e:aH H H')(h:fF K H a xs):fF K H' a xs:=by
 rcases h with (h|⟨o,h⟩)|h
 .exact .inl (.inl (e _ _ h))
 .exact .inl (.inr ⟨o,e _ _ h⟩)
 .exact .inr h
section
variable {κ:Type}[DecidableEq κ]
noncomputable def j4 (a9:List (κ×V))(k:κ):Option V:=(a9.find? λkv=>decide (kv.1=k)).map (·.2)
noncomputable def nM (a9:List (κ×V))(k:κ)(v:V):List (κ×V):=
 if(a9.any λkv=>decide (kv.1=k))=true then a9.map (λkv=>if kv.1=k then (kv.1,v)else kv)else a9++[(k,v)]
def mr {p:κ×V}{r:List (κ×V)}{k:κ}(e:p.1=k):j4 (p::r) k=some p.2:=by simp[j4,e]
def mu {p:κ×V}{r:List (κ×V)}{k:κ}(e:¬p.1=k):j4 (p::r) k=j4 r k:=by simp[j4,e]
theorem xQ (k:κ):∀a9:List (κ×V),(a9.any λkv=>decide (kv.1=k))=(j4 a9 k).isSome
 |[]=>rr
 |p::r=>by
  rw[any_cons];by_cases e:p.1=k
  .simp_all[mr]
  .rw[mu e,oC e];exact xQ k r
theorem j5 (a9:List (κ×V))(k:κ)(v:V):(nM a9 k v).length<=a9.length+1:=by
 grind[nM]
def kX.isSome_eq (r:kX o u):o.isSome=u.isSome:=by
 cases o with
 |none=>cases u with
  |none=>rfl
  |some _=>exact(show False from r).elim
 |some _=>cases u with
  |none=>exact(show False from r).elim
  |some _=>rfl
def kX.getD (r:kX o u)(M:aD d d'):aD (o.getD d) (u.getD d'):=by
 cases o with
 |none=>cases u with
  |none=>exact M
  |some _=>exact(show False from r).elim
 |some _=>cases u with
  |none=>exact(show False from r).elim
  |some _=>exact r
def KV.val {a9:List (κ×V)}{vs:List (κ×Value)}(r:KV a9 vs)(k:κ):kX (j4 a9 k) (valueAt vs k):=by
 induction r with
 |nil=>exact True.intro
 |@cons p q ps M h t O=>
  obtain⟨h1,h2⟩:=h;by_cases e:p.1=k
  .have b:valueAt (q::M) k=some q.2:=by simp_all[valueAt]
   rw[mr e,b];exact h2
  simp_all[valueAt,mu]
def KV.any (r:KV a9 vs)(k:κ):(a9.any λkv=>decide (kv.1=k))=vs.any λkv=>decide (kv.1=k):=by
 induction r with
 |nil=>rfl
 |cons h t M=>simp_all
def KV.repl (r:KV a9 vs)(k:κ)(O:aD y u):
  KV (a9.map λkv=>if kv.1=k then (kv.1,y)else kv) (vs.map λkv=>if kv.1=k then (kv.1,u)else kv):=by
 induction r with
 |nil=>exact .nil
 |@cons p q ps a h t M=>
  rw[uY];refine .cons ?_ M;split<;>simp_all
def KV.put (r:KV a9 vs)(k:κ)(M:aD y u):KV (nM a9 k y) (stored vs k u):=by
 unfold nM stored;rw[r.any k];by_cases e:(vs.any λkv=>decide (kv.1=k))=true
 .rw[if_pos e,if_pos e];exact r.repl k M
 .rw[if_neg e,if_neg e];exact Paired.snoc r ⟨rr,M⟩
def KV.length (r:KV a9 vs):a9.length=vs.length:=Paired.length r
end
def pR (r:aD (kV k) u):(ce P w).is k u=true:=by
 cases k with
 |inl i=>obtain⟨t,e⟩:=(show ∃t,u=Value.int i t from r);simp_all[xI]
 |inr x=>obtain⟨t,e⟩:=(show ∃t,u=Value.str x t from r);simp_all[xJ]
theorem t9:∀ {ks:List dh}{us:LU},aL (ks.map kV) us->ItemsAre (ce P w) ks us
 |[],_,r=>by cases r;exact .nil
 |k::ks,_,r=>by
  cases r with
  |cons h t=>exact .cons (pR h) (t9 t)
abbrev KT (H:Hp):List (List dh×V)->List (List dh×Addr×Value)->Prop:=Paired λp q=>p.1=q.1/\H q.2.1=some (.tup (p.1.map kV))/\aD p.2 q.2.2
def KT.val {H:Hp}{a9:List (List dh×V)}{xs:List (List dh×Addr×Value)}(r:KT H a9 xs)(k:List dh):kX (j4 a9 k) ((atKey xs k).map (·.2)):=by
 induction r with
 |nil=>exact True.intro
 |@cons p q ps M h t a=>
  obtain⟨h1,_,h2⟩:=h;by_cases e:p.1=k
  .have O:=h1.symm.trans e;have b:atKey (q::M) k=some q.2:=by simp[atKey,O]
   rw[mr e,b];exact h2
  simp_all[atKey,mu]
def KT.repl (r:KT H a9 xs)(k:List dh)(O:aD y u):
  KT H (a9.map λkv=>if kv.1=k then (kv.1,y)else kv) (xs.map (putAt k u)):=by
 induction r with
 |nil=>exact .nil
 |@cons p q ps a h t M=>
  refine .cons ?_ M;unfold putAt;split<;>simp_all
def KT.put (r:KT H a9 xs)(k:List dh)(hb:H b=some (.tup (k.map kV)))(M:aD y u):
  KT H (nM a9 k y) (storedH xs k b u):=by
 have e:(a9.any λkv=>decide (kv.1=k))=(atKey xs k).isSome:=by
  rw[xQ,(r.val k).isSome_eq,Option.isSome_map]
 unfold nM storedH;rw[e];by_cases q:(atKey xs k).isSome=true
 .rw[if_pos q,if_pos q];exact r.repl k M
 .rw[if_neg q,if_neg q];exact Paired.snoc r ⟨rr,hb,M⟩
def KT.keeps (r:KT H a9 xs)(M:∀b ys,H b=some (.tup ys)->H' b=some (.tup ys)):KT H' a9 xs:=
 Paired.mapP r λ_ _ z=>⟨z.1,M _ _ z.2.1,z.2.2⟩
section
variable {P:Program}{w:World}{H:Hp}{h:Heap}{a:Addr}
def OJ (ok:kY P w H h)(e:Rd H a u):bj P w H h a u:=e.ok ok
def AL (ok:kY P w H h)(e:H a=some (.dK a9 ob)):h.get? a=some ob:=And.left (show bj P w H h a _ from ok a _ e)
def pT (ok:kY P w H h)(e:Rd H a (.dK a9 ob)):a9.length<=sizeLine/\(a == sysModules)=false/\∃vs,KV a9 vs/\h.DictOf (ce P w) a vs:=
 And.right (show bj P w H h a _ from OJ ok e)
def pU (ok:kY P w H h)(e:H a=some (.dK a9 ob)):a9.length<=sizeLine/\(a == sysModules)=false/\∃vs,KV a9 vs/\h.DictOf (ce P w) a vs:=pT ok (.inl e)
theorem nN (ok:kY P w H h)(e:H a=some (.tup (ks.map kV))):(tupleKind (ce P w)).is h ks a:=by
 obtain⟨_,its,r,o,h1,h2,n,h3⟩:=(show bj P w H h a _ from ok a _ e);exact⟨o,its.toArray,n,h1,h2,h3,by simpa using t9 r⟩
def pV (ok:kY P w H h)(e:Rd H a (.dT a9)):a9.length<=sizeLine/\(a == sysModules)=false /\
  ∃xs,KT H a9 xs/\h.DictOfH (tupleKind (ce P w)) a xs:=by
 refine cX λG g=>?_;obtain⟨z,y,xs,r,o,es,M,h1,h2,h3,h4,h5⟩:=(show bj P w H h a _ from OJ ok e);apply g;clear g;refine⟨z,y,xs,r,o,es,M,h1,h2,h3,h4,λx hx=>?_,h5⟩;have all:∀ {l:List _}{m:List _},KT H l m->∀x∈m,(tupleKind (ce P w)).is h x.1 x.2.1:=by
  intro l m q;induction q with
  |nil=>intro x hx;exact nomatch hx
  |@cons p q ps O hq t b=>
   grind[nN]
 exact all r x hx
def U6 (ok:kY P w H h)(e:H a=some (.dT a9)):a9.length<=sizeLine/\(a == sysModules)=false /\
  ∃xs,KT H a9 xs/\h.DictOfH (tupleKind (ce P w)) a xs:=pV ok (.inl e)
end
def vy (H:Hp)(a:Addr)(y:V)(r:Option V):Prop:=
 (∃a9 k ob,Rd H a (.dK a9 ob)/\y=kV k/\r=j4 a9 k)\/∃a9 k b,Rd H a (.dT a9)/\y=.ref b/\H b=some (.tup (k.map kV))/\r=j4 a9 k
def U7 (H:Hp)(a:Addr)(y v:V)(Q:Hp->Prop):Prop:=
 (∃a9 k ob,H a=some (.dK a9 ob)/\y=kV k/\a9.length<sizeLine/\∀M,Q (upd H a (.dK (nM a9 k v) M))) \/
 ∃a9 k b,H a=some (.dT a9)/\y=.ref b/\H b=some (.tup (k.map kV))/\a9.length<sizeLine/\Q (upd H a (.dT (nM a9 k v)))
section
variable {X:Cx}{af:AO}{σ:St}{H:Hp}{s:Shared}{a:Addr}{y v:V}{u r:Value}{o:Option V}{A:Around}{E:QV}
def Inv.big (I:Inv X af σ H s):sysModules<s.z:=by
 have h:=(I.mod.glob.keeps I.bk).lt;exact Nat.lt_trans H9 h
def Fj (hu:A.units+1<cLine)(I:Inv X af σ H s)(g:vy H a y (some v))(f:aD y u)(h:∀O s',Inv X af σ H s'->aD v O->Q O s'):
  wpAny (model X.prog X.w) A (getItem (.ref a) u) Q E s:=by
 rcases g with⟨a9,k,ob,e,c,l⟩|⟨a9,k,b,e,c,i,l⟩
 .subst c;obtain⟨z,hd,vs,rel,dd⟩:=pT I.hok e;obtain⟨O,hw,M⟩:=kX.some_of (by rw[l];exact rel.val k);exact wpAny_getItem_of (pR f) dd.mapOf hw (h O _ (I.tok _) M)
 .subst c;cases (show u=Value.ref b from f)
  obtain⟨z,hd,xs,rel,dd⟩:=pV I.hok e;obtain⟨O,hw,M⟩:=kX.some_of (by rw[l];exact rel.val k);refine eZ hw λp hp d=>?_;refine wpAny_getItem_heap (tupleKind_room_in1 hu) (nN I.hok i) dd hp ?_;rw[d];exact h O _ (I.tok _) M
def YY (hu:A.units+1<cLine)(I:Inv X af σ H s)(g:vy H a y o)(O:aD y u)(h:∀s',Inv X af σ H s'->Q (.bool o.isSome) s'):
  wpAny (model X.prog X.w) A (compareOp .In u (.ref a)) Q E s:=by
 rcases g with⟨a9,k,ob,e,M,l⟩|⟨a9,k,b,e,M,c,l⟩
 .subst M;obtain⟨z,hd,vs,rel,dd⟩:=pT I.hok e;refine wpAny_in_of (pR O) hd dd.mapOf ?_;rw[<-(rel.val k).isSome_eq,<-l];exact h _ (I.tok _)
 .subst M;cases (show u=Value.ref b from O)
  obtain⟨z,hd,xs,rel,dd⟩:=pV I.hok e;refine wpAny_in_heap (tupleKind_room_in1 hu) (nN I.hok c) hd dd ?_;have q:=(rel.val k).isSome_eq;rw[Option.isSome_map]at q;rw[<-q,<-l];exact h _ (I.tok _)
def Mb (hu:A.units+1<cLine)(I:Inv X af σ H s)(g:vy H a y o)(O:aD y u)(h:∀s',Inv X af σ H s'->Q (.bool (!o.isSome)) s'):
  wpAny (model X.prog X.w) A (compareOp .NotIn u (.ref a)) Q E s:=by
 rcases g with⟨a9,k,ob,e,M,l⟩|⟨a9,k,b,e,M,c,l⟩
 .subst M;obtain⟨z,hd,vs,rel,dd⟩:=pT I.hok e;refine wpAny_notIn_of (pR O) hd dd.mapOf ?_;rw[<-(rel.val k).isSome_eq,<-l];exact h _ (I.tok _)
 .subst M;cases (show u=Value.ref b from O)
  obtain⟨z,hd,xs,rel,dd⟩:=pV I.hok e;refine wpAny_notIn_heap (tupleKind_room_in1 hu) (nN I.hok c) hd dd ?_;have q:=(rel.val k).isSome_eq;rw[Option.isSome_map]at q;rw[<-q,<-l];exact h _ (I.tok _)
def vz (I:Inv X af σ H s)(M:TL (H a))(hs:Heap.SameBut a s.heap h')(he:∃q,h'.get? a=some q)(new:bj X.prog X.w (upd H a ob) h' a ob):
  Inv X af σ (upd H a ob) { s with heap:=h',toks:=t' } :=
 I.write M (.inl rr) (λb q hb z=>(hs.2 b hb).trans z) he new
def Hs (z:a9.length<=sizeLine)(hd:(a == sysModules)=false)(rel:KV a9 vs)(dd:h'.DictOf (ce P w) a vs)(M:h'.get? a=some ob):
  bj P w H' h' a (.dK a9 ob):=⟨M,z,hd,vs,rel,dd⟩
def Fk (hu:A.units+1<cLine)(I:Inv X af σ H s)(g:U7 H a y v R)(f:aD y u)(rv:aD v r)(h:∀H' s',R H'->Inv X af σ H' s'->Q () s'):
  wpAny (model X.prog X.w) A (setItem (.ref a) u r) Q E s:=by
 rcases g with⟨a9,k,ob,e,O,l,d⟩|⟨a9,k,b,e,O,i,l,d⟩
 .subst O;obtain⟨z,hd,vs,rel,dd⟩:=pU I.hok e;have hz:vs.length<=sizeLine:=by rw[<-rel.length];exact z
  have hl:(nM a9 k v).length<=sizeLine:=by have:=j5 a9 k v;lia
  refine wpAny_setItem_pairs (hsz:=hz) (pR f) dd λh' M hs=>?_;obtain⟨q,hq⟩:∃q,h'.get? a=some q:=let ⟨q,_,_,hq,_⟩:=M;⟨q,hq⟩;exact h _ _ (d q) (vz I (by rw[e];exact True.intro) hs ⟨q,hq⟩ (Hs hl hd (rel.put k rv) M hq))
 .subst O;cases (show u=Value.ref b from f)
  obtain⟨z,hd,xs,rel,dd⟩:=U6 I.hok e;have hz:xs.length<=sizeLine:=by rw[<-Paired.length rel];exact z
  have hl:(nM a9 k v).length<=sizeLine:=by have:=j5 a9 k v;lia
  refine wpAny_setItem_heap (hsz:=hz) (tupleKind_room_in1 hu) (nN I.hok i) dd λh' M hs=>h _ _ d ?_;refine cX λG K=>?_;obtain⟨q,es,m,hq,h2,h3,h4,_,h5⟩:=M;apply K;refine vz I (by rw[e];exact True.intro) hs ⟨q,hq⟩ ⟨hl,hd,_,(rel.put k i rv).keeps λc ys j=>?_,q,es,m,hq,h2,h3,h4,h5⟩;rw[a6 (TK j e (λz=>nomatch z))];exact j
end
def Qx (i:Expr):Prop:=∀M iv,subscripted i false M iv=operate [M,iv] (getItem M iv)
def Mc {prog:Program}{w:World}{A:Around}{E:QV}{s:Shared}{env:Env}{O M:Expr}{g:Pos}{T id:String}{Q:QV}
  (hl:typeLookup (.type T) "__getitem__" = pure (some (.builtin id))) (hs:Qx M)
  (h:wpAny (model prog w) A (eval O env) (λo c=>wpAny (model prog w) A (eval M env) (λi a=>a.TypeIs o T/\wpAny (model prog w) A (getItem o i) Q E a) E c) E s):
  wpAny (model prog w) A (eval (.Subscript O M g) env) Q E s:=by
 refine Subscript_ (wpAny_mono h (λo c e=>wpAny_mono e (λi a b=>?_) λ_ _ x=>x) λ_ _ x=>x);obtain⟨j,b⟩:=b;refine wX ?_;refine wX (wpAny_specialOf j hl ?_);have dJ:wpAny (model prog w) A (subscripted M false o i) (λr d=>wpAny (model prog w) A (letTemporaryGo O o r>>=λ_=>pure r) Q E d) E a:=by
  rw[hs o i];exact wpAny_operating (wpAny_mono b (λr d f=>wX (wpAny_letTemporaryGo (wY f))) λ_ _ x=>x)
 first
  |exact wY (wX dJ)
  |exact wX _
  |exact wX _
def xR (I:Inv X af σ H s)(g:vy H a y o):s.TypeIs (.ref a) "dict":=by
 rcases g with⟨a9,k,M,e,_,_⟩|⟨a9,k,b,e,_,_,_⟩
 .obtain⟨_,_,vs,_,dd⟩:=pT I.hok e;exact dd.typeIs
 .obtain⟨_,_,xs,_,dd⟩:=pV I.hok e;exact dd.typeIs
def U8 (M ty:TE):TE:=λσ H Q=>M σ H λx O=>ty σ O λy H2=>∃a v,x=.ref a/\vy H2 a y (some v)/\Q v H2
def YZ (ty M:TE):TE:=λσ H Q=>ty σ H λy O=>M σ O λx H2=>∃a o,x=.ref a/\vy H2 a y o/\Q (.bl o.isSome) H2
def Md (ty M:TE):TE:=λσ H Q=>ty σ H λy O=>M σ O λx H2=>∃a o,x=.ref a/\vy H2 a y o/\Q (.bl (!o.isSome)) H2
def Ch (M ty O:TE):TS:=λD σ H=>O σ H λv b=>M σ b λx H2=>ty σ H2 λy c=>∃a,x=.ref a/\U7 c a y v (D.nx σ)
section
variable {X:Cx}{o i e value:Expr}{pos KZ S4:Pos}{td ty tv:TE}
def Me (hu:X.A.units+1<cLine)(ho:PE X o td)(hi:PE X i ty)(hs:Qx i):PE X (.Subscript o i pos) (U8 td ty):=by
 intro af s σ H Q I h;refine Mc PySem.F.slot_dict_getitem.lookup hs (bD (ho _ s σ H _ I h) λu s1 ⟨x,b,c,d,f⟩=>bD (hi _ s1 σ b _ c f) λiv s2 ⟨y,H2,O,j,a,v,ex,g,q2⟩=>?_);subst ex;obtain rfl:u=Value.ref a:=d;exact⟨xR O g,Fj hu O g j λl m k M=>⟨v,H2,k,M,q2⟩⟩
def Qy (hu:X.A.units+1<cLine)(hi:PE X i ty)(ho:PE X o td):PC X .In i o (YZ ty td):=by
 intro af s σ H Q I h;refine bD (hi _ s σ H _ I h) λiv s1 ⟨y,M,O,b,c⟩=>bD (ho _ s1 σ M _ O c) λu s2 ⟨x,H2,d,f,a,k,ex,g,q2⟩=>?_;subst ex;obtain rfl:u=Value.ref a:=f;exact YY hu d g b λl j=>⟨.bl _,H2,j,rr,q2⟩
def Fl (hu:X.A.units+1<cLine)(hi:PE X i ty)(ho:PE X o td):PC X .NotIn i o (Md ty td):=by
 intro af s σ H Q I h;refine bD (hi _ s σ H _ I h) λiv s1 ⟨y,M,O,b,c⟩=>bD (ho _ s1 σ M _ O c) λu s2 ⟨x,H2,d,f,a,k,ex,g,q2⟩=>?_;subst ex;obtain rfl:u=Value.ref a:=f;exact Mb hu d g b λl j=>⟨.bl _,H2,j,rr,q2⟩
def v0 (hu:X.A.units+1<cLine)(ho:PE X o td)(hi:PE X i ty)(hv:PE X value tv)(hs:swapsWith value (some (.Subscript o i KZ)) pos.line X.env=pure false):
  PS X (.Assign [.Subscript o i KZ] value pos) (Ch td ty tv):=by
 intro af s σ H D I h;refine wpAny_Assign_Subscript (bD (hv _ s σ H _ I h) λr s1 ⟨v,M,O,rv,b⟩=>bD (ho _ s1 σ M _ O b) λu s2 ⟨x,H2,c,d,q2⟩=>bD (hi _ s2 σ H2 _ c q2) λiv n ⟨y,p,f,j,a,ex,g⟩=>?_) hs;subst ex;obtain rfl:u=Value.ref a:=d;exact Fk hu f g j rv λk q l m=>⟨σ,k,m,l⟩
end
def xS (h:Heap)(hb:sysModules<h.objs.size):bj P w H (h.push { cls:=.type "dict",data:=.dict #[] }) h.objs.size (.dK [] { cls:=.type "dict",data:=.dict #[] }):=
 ⟨vY _ rr,uN _,beq_eq_false_iff_ne.mpr (Ne.symm (vS hb)),[],.nil,Heap.DictOf.new h⟩
def Ht (h:Heap)(hb:sysModules<h.objs.size):bj P w H (h.push { cls:=.type "dict",data:=.dict #[] }) h.objs.size (.dT []):=
 ⟨uN _,beq_eq_false_iff_ne.mpr (Ne.symm (vS hb)),[],.nil,_,#[],0,vY _ rr,⟨rr,rr,rr⟩,rr,rr,nodup_nil⟩
def Hu:TE:=λ_ H Q=>∀p ob,H p=none->Q (.ref p) (upd H p (.dK [] ob))
def Hv:TE:=λ_ H Q=>∀p,H p=none->Q (.ref p) (upd H p (.dT []))
section
variable {X:Cx}{pos:Pos}
def Hw:PE X (.Dict [] [] pos) Hu:=λaf s σ H Q I h=>
 wpAny_Dict_empty ⟨.ref _,_,I.laid (λ_ _ q=>vZ _ q) (vT _) (xS _ I.big),rr,h _ _ (I.hok.fresh (vT _))⟩
def Hx:PE X (.Dict [] [] pos) Hv:=λaf s σ H Q I h=>
 wpAny_Dict_empty ⟨.ref _,_,I.laid (λ_ _ q=>vZ _ q) (vT _) (Ht _ I.big),rr,h _ (I.hok.fresh (vT _))⟩
end
structure M1 (X:Cx)(o:Expr)(m:Str)(cb:Pos)(e:Expr)(bA:Pos):Prop where
 base:attributeBase o m X.env (eval o X.env)=eval o X.env
 few:((backTo bA (starEach [e] X.env)).all (λx=>!x.1) && (backToKw bA (keywordEach [] X.env)).all (λx=>x.1.isSome)
  && decide (([e]:List Expr).length+([]:List Keyword).length+(if([]:List Keyword).isEmpty then 0 else 1)<30))=true
 line:(cb.endLine == bA.line)=true
 trees:backTo bA (starEach [e] X.env)=[(false,eval e X.env)]
def IsD (H:Hp)(a:Addr):Prop:=(∃a9 ob,Rd H a (.dK a9 ob))\/∃a9,Rd H a (.dT a9)
def Qz (I:Inv X af σ H s)(d:IsD H a):
  s.TypeIs (.ref a) "dict"/\(∀b,Value.ref a=.ref b->∃ob,s.heap.get? b=some ob/\ob.dict=none)/\(a == sysModules)=false:=by
 rcases d with⟨a9,M,e⟩|⟨a9,e⟩
 .obtain⟨_,hd,vs,_,dd⟩:=pT I.hok e;refine⟨dd.typeIs,λb q=>?_,hd⟩;cases q
  obtain⟨ob,_,_,h1,h2,_⟩:=dd;exact⟨ob,h1,h2.2.1⟩
 .obtain⟨_,hd,xs,_,dd⟩:=pV I.hok e;refine⟨dd.typeIs,λb q=>?_,hd⟩;cases q
  obtain⟨ob,_,_,h1,h2,_⟩:=dd;exact⟨ob,h1,h2.2.1⟩
section
variable {X:Cx}{af:AO}{σ:St}{H:Hp}{s:Shared}{a:Addr}{y d:V}{u r:Value}{o:Option V}{A:Around}{E:QV}
def Q0 (hu:A.units+1<cLine)(I:Inv X af σ H s)(g:vy H a y o)(O:aD y u)(h:∀c s',Inv X af σ H s'->aD (o.getD .non) c->Q c s'):
  wpAny (model X.prog X.w) A (call (.builtin "dict.get") [.ref a,u]) Q E s:=by
 rcases g with⟨a9,k,ob,e,M,l⟩|⟨a9,k,b,e,M,f,l⟩
 .subst M;obtain⟨z,hd,vs,rel,dd⟩:=pT I.hok e;refine call_meetsIn slot_dict_get dd.typeIs entry_dict_get (PySem.F.args_dict_get_2 _ _) (meets_dict_get _ a (pR O) hd) ⟨_,dd.mapOf,h _ _ (I.tok _) ?_⟩;rw[l];exact(rel.val k).getD rr
 .subst M;cases (show u=Value.ref b from O)
  obtain⟨z,hd,xs,rel,dd⟩:=pV I.hok e;refine call_meetsIn slot_dict_get dd.typeIs entry_dict_get (PySem.F.args_dict_get_2 _ _) (meetsH_dict_get _ a b hd) ⟨tupleKind_room_in1 hu,k,xs,nN I.hok f,dd,h _ _ (I.tok _) ?_⟩;rw[l];exact(rel.val k).getD rr
end
def Q1 (O ty:TE):TE:=λσ H Q=>O σ H λx M=>∃a,x=.ref a/\IsD M a/\ty σ M λy H2=>∃o,vy H2 a y o/\Q (o.getD .non) H2
section
variable {X:Cx}{o e f:Expr}{cb bA:Pos}{td ty tx:TE}
def xT (hu:X.A.units+1<cLine)(ho:PE X o td)(he:PE X e ty)(m:M1 X o "get" cb e bA):PE X (.Call (.Attribute o "get" cb) [e] [] bA) (Q1 td ty):=by
 intro af s σ H Q I h;refine wpAny_Call_method m.base m.few m.line plainAttrs_dict slot_dict_get PySem.F.type_dict_get (bD (ho _ s σ H _ I h) λu s1 ⟨x,b,O,c,a,ex,d,i⟩=>?_);subst ex;obtain rfl:u=Value.ref a:=c;obtain⟨j,k,_⟩:=Qz O d;refine⟨j,k,?_⟩;rw[m.trees];refine Calls.callWith_builtin rr (Calls.evalArgs_plain (Calls.spliced_cons (bD (he _ s1 σ b _ O i) λiv s2 ⟨y,H2,l,n,q,g,q2⟩=>Calls.spliced_nil ?_)));exact Q0 hu l g n λr t p M=>⟨_,H2,p,M,q2⟩
end
end L2
namespace DL
open PySem L2
abbrev St:=L2.St
set_option genInjectivity true in
inductive D where
 |non|bl (b:Bool)|int (i:Int)|str (x:Str)|ty (n:String)|tup (ds:List D)|lst (ds:List D)
  |dk (ks:List dh) (vs:List D)|dt (ks:List (List dh)) (vs:List D)
abbrev LD:=List D
abbrev LV:=List V
abbrev LK:=List dh
abbrev OB:=Option (D×Bool)
mutual
inductive Is (K:Frag)(H:Hp):V->D->Prop where
 |non:Is K H .non .non
 |bl (b:Bool):Is K H (.bl b) (.bl b)
 |int (i:Int):Is K H (.int i) (.int i)
 |str (x:Str):Is K H (.str x) (.str x)
 |ty (n:String):Is K H (.ty n) (.ty n)
 |tup {a:Addr}{vs:List V}{ds:List D}(h:gN K H a vs) (hs:IsL K H vs ds):Is K H (.ref a) (.tup ds)
 |lst {a:Addr}{vs:List V}{ds:List D}(h:fF K H a vs) (hs:IsL K H vs ds):Is K H (.ref a) (.lst ds)
 |dk {a:Addr}{ks:List dh}{vs:List V}{ds:List D}{ob:Obj}(h:H a=some (.dK (ks.zip vs) ob)) (hl:ks.length=vs.length) (hs:IsL K H vs ds):Is K H (.ref a) (.dk ks ds)
 |dt {a:Addr}{ks:List (List dh)}{vs:List V}{ds:List D}(h:H a=some (.dT (ks.zip vs))) (hl:ks.length=vs.length) (hs:IsL K H vs ds):Is K H (.ref a) (.dt ks ds)
inductive IsL (K:Frag)(H:Hp):List V->List D->Prop where
 |nil:IsL K H [] []
 |cons {v:V}{d:D}{vs:List V}{ds:List D}(h:Is K H v d) (hs:IsL K H vs ds):IsL K H (v::vs) (d::ds)
end
mutual
def aR:D->Bool
 |.lst _=>false
 |.dk _ _=>false
 |.dt _ _=>false
 |.tup ds=>aX ds
 |_=>true
def aX:LD->Bool
 |[]=>true
 |d::ds=>aR d && aX ds
end
@[simp] def Tc:aR .non=true:=by simp only[aR]
@[simp] def U9 (b:Bool):aR (.bl b)=true:=by simp only[aR]
@[simp] def Td (i:Int):aR (.int i)=true:=by simp only[aR]
@[simp] def Te (x:Str):aR (.str x)=true:=by simp only[aR]
@[simp] def UA (x:String):aR (.ty x)=true:=by simp only[aR]
@[simp] def Tf (ds:LD):aR (.tup ds)=aX ds:=by rw[aR]
@[simp] def Tg (ds:LD):aR (.lst ds)=false:=by rw[aR]
@[simp] def UB (ks:LK)(ds:LD):aR (.dk ks ds)=false:=by rw[aR]
@[simp] def UC (ks:List LK)(ds:LD):aR (.dt ks ds)=false:=by rw[aR]
@[simp] def Q2:aX []=true:=by rw[aX]
@[simp] def OK (d:D)(ds:LD):aX (d::ds)=(aR d && aX ds):=by rw[aX]
section
variable {K:Frag}{H H':Hp}
mutual
theorem Is.keep (M:∀a vs,gN K H a vs->gN K H' a vs)(O:∀a vs,fF K H a vs->fF K H' a vs)(c:∀a a9 ob,H a=some (.dK a9 ob)->H' a=some (.dK a9 ob))(e:∀a a9,H a=some (.dT a9)->H' a=some (.dT a9)):∀ {v:V}{d:D},Is K H v d->Is K H' v d
 |_,_,.non=>.non
 |_,_,.bl b=>.bl b
 |_,_,.int i=>.int i
 |_,_,.str x=>.str x
 |_,_,.ty x=>.ty x
 |_,_,.tup h hs=>.tup (M _ _ h) (IsL.keep M O c e hs)
 |_,_,.lst h hs=>.lst (O _ _ h) (IsL.keep M O c e hs)
 |_,_,.dk h hl hs=>.dk (c _ _ _ h) hl (IsL.keep M O c e hs)
 |_,_,.dt h hl hs=>.dt (e _ _ h) hl (IsL.keep M O c e hs)
theorem IsL.keep (M:∀a vs,gN K H a vs->gN K H' a vs)(O:∀a vs,fF K H a vs->fF K H' a vs)(b:∀a a9 ob,H a=some (.dK a9 ob)->H' a=some (.dK a9 ob))(c:∀a a9,H a=some (.dT a9)->H' a=some (.dT a9)):∀ {vs:LV}{ds:LD},IsL K H vs ds->IsL K H' vs ds
 |_,_,.nil=>.nil
 |_,_,.cons h hs=>.cons (Is.keep M O b c h) (IsL.keep M O b c hs)
end
mutual
theorem Is.keepT (M:∀a vs,gN K H a vs->gN K H' a vs):∀ {v:V}{d:D},Is K H v d->aR d=true->Is K H' v d
 |_,_,.non,_=>.non
 |_,_,.bl b,_=>.bl b
 |_,_,.int i,_=>.int i
 |_,_,.str x,_=>.str x
 |_,_,.ty x,_=>.ty x
 |_,_,.tup h hs,n=>.tup (M _ _ h) (IsL.keepT M hs (by simpa using n))
 |_,_,.lst h hs,n=>by simp at n
 |_,_,.dk h hl hs,n=>by simp at n
 |_,_,.dt h hl hs,n=>by simp at n
theorem IsL.keepT (M:∀a vs,gN K H a vs->gN K H' a vs):∀ {vs:LV}{ds:LD},IsL K H vs ds->aX ds=true->IsL K H' vs ds
 |_,_,.nil,_=>.nil
 |_,_,.cons h hs,n=>by
  simp at n;exact .cons (Is.keepT M h n.1) (IsL.keepT M hs n.2)
end
def aV (e:aH H H')(h:gN K H a xs):gN K H' a xs:=by
 rcases h with (h|⟨o,h⟩)|h
 .exact .inl (.inl (e _ _ h))
 .exact .inl (.inr ⟨o,e _ _ h⟩)
 .exact .inr h
def Is.mono (h:Is K H v d)(e:aH H H'):Is K H' v d:=h.keep (λ_ _=>aV e) (λ_ _=>e.seq) (λ_ _ _ q=>e _ _ q) λ_ _ q=>e _ _ q
def IsL.mono (h:IsL K H v d)(e:aH H H'):IsL K H' v d:=h.keep (λ_ _=>aV e) (λ_ _=>e.seq) (λ_ _ _ q=>e _ _ q) λ_ _ q=>e _ _ q
theorem IsL.length:∀ {vs:LV}{ds:LD},IsL K H vs ds->vs.length=ds.length
 |_,_,.nil=>rr
 |_,_,.cons _ t=>congrArg _ t.length
theorem IsL.get:∀ {vs:LV}{ds:LD}{i:Nat}{d:D},IsL K H vs ds->ds[i]? = some d->∃v,vs[i]? = some v/\Is K H v d
 |_,_,_,_,.nil,e=>by simp at e
 |_,_,0,_,.cons h _,e=>by simp_all
 |_,_,i+1,d,.cons _ t,e=>by
  obtain⟨u,h1,h2⟩:=t.get (by simpa using e);simp_all
theorem IsL.append:∀ {vs ws:LV}{ds es:LD},IsL K H vs ds->IsL K H ws es->IsL K H (vs++ws) (ds++es)
 |_,_,_,_,.nil,s=>s
 |_,_,_,_,.cons r t,s=>.cons r (t.append s)
theorem IsL.take:∀ {vs:LV}{ds:LD}(n:Nat),IsL K H vs ds->IsL K H (vs.take n) (ds.take n)
 |_,_,0,_=>by simpa using IsL.nil
 |_,_,_+1,.nil=>.nil
 |_,_,n+1,.cons r t=>.cons r (t.take n)
theorem IsL.drop:∀ {vs:LV}{ds:LD}(n:Nat),IsL K H vs ds->IsL K H (vs.drop n) (ds.drop n)
 |_,_,0,r=>r
 |_,_,_+1,.nil=>.nil
 |_,_,n+1,.cons _ t=>t.drop n
theorem IsL.set (h:Is K H v d):∀ {vs:LV}{ds:LD}(i:Nat),IsL K H vs ds->IsL K H (vs.set i v) (ds.set i d)
 |_,_,_,.nil=>.nil
 |_,_,0,.cons _ t=>.cons h t
 |_,_,i+1,.cons r t=>.cons r (IsL.set h i t)
def IsL.flat {vs:LV}{ns:LI}(h:vs=ns.map V.int):IsL K H vs (ns.map D.int):=by
 subst h;induction ns with
 |nil=>exact .nil
 |cons n ns M=>exact .cons (.int n) M
end
structure Ext (B N H H':Hp):Prop where
 hh:aH H H'
 bn:aH B N
 nh:aH N H'
 new:∀a o,N a=some o->B a=some o\/H a=none
def Ext.refl (h:aH B H):Ext B B H H:=⟨.refl _,.refl _,h,λ_ _ e=>.inl e⟩
def Ext.trans (x:Ext B N H M)(y:Ext N N2 M H2):Ext B N2 H H2:=
 ⟨x.hh.trans y.hh,x.bn.trans y.bn,y.nh,λa o e=>(y.new a o e).elim (λq=>x.new a o q) λq=>.inr (x.hh.free q)⟩
def Ext.laid (h:aH B H)(hp:H p=none):Ext B (upd B p o) H (upd H p o):=by
 have M:=h.free hp;refine⟨λa u e=>?_,λa u e=>?_,λa u e=>?_,λa u e=>?_⟩
 .grind[a6]
 .grind[a6]
 .by_cases q:a=p
  .simp_all[au]
  .rw[a6 q]at e |-;exact h _ _ e
 grind[a6]
def Ext.grow (h:aH B H)(hh:aH H H'):Ext B B H H':=⟨hh,.refl _,h.trans hh,λ_ _ e=>.inl e⟩
abbrev Env:=List OB
abbrev FE:=Env->OB
abbrev FA:=Env->Option LD
abbrev FT:=Env->Option Bool
def Th (K:Frag)(H N:Hp)(v:V):D->Prop
 |.tup ds=>∃(a:Addr)(vs:LV),v=.ref a/\gN K N a vs/\IsL K N vs ds/\∀(i:Nat)(es:LD),ds[i]? = some (.lst es)->∃(b:Addr)(us:LV),vs[i]? = some (.ref b)/\H b=none/\N b=some (.lst us)/\IsL K N us es
 |d=>∃(a:Addr)(vs:LV)(ds:LD),v=.ref a/\d=.lst ds/\H a=none/\N a=some (.lst vs)/\IsL K N vs ds
def Th.back (h:Th K H' N v d)(e:aH H H'):Th K H N v d:=by
 cases d
 case tup=>exact let ⟨a,vs,q,y,z,r⟩:=h;⟨a,vs,q,y,z,λi es g=>let ⟨b,us,g1,M,O⟩:=r i es g;⟨b,us,g1,e.free M,O⟩⟩
 all_goals exact let ⟨a,vs,ds,q,y,z,r⟩:=h;⟨a,vs,ds,q,y,e.free z,r⟩
noncomputable def j6:LS:=["in_order","has_seal","is_first_death","bases_by","as_heard"]
noncomputable def sD (x:Str):Str:=x ++ ".<locals>." ++ "<lambda>"
def Tb (K:Frag)(B:Hp):Prop:=∀x∈j6,∀c P,PySem.W.tabIn K x=some (c,P)->B P=some (.tbl (sD x))
def Tb.mono (h:Tb K B)(e:aH B M):Tb K M:=λx hx c P q=>e _ _ (h x hx c P q)
structure eA (K:Frag)(B:Hp)(σ:St)(ρ:Env):Prop where
 tb:Tb K B
 at':∀(i:Nat)(d:D)(b:Bool),ρ[i]? = some (some (d,b))->∃v,σ[i]? = some (some v)/\Is K B v d
def eA.mono (h:eA K B σ ρ)(e:aH B M):eA K M σ ρ:=⟨h.tb.mono e,λi d b q=>let ⟨v,h1,h2⟩:=h.at' i d b q;⟨v,h1,h2.mono e⟩⟩
def Fin (K:Frag)(B H:Hp)(d:D)(b:Bool)(Q:VK):Prop:=∀(v:V)(H' N:Hp),Ext B N H H'->Is K N v d->(b=true->Th K H N v d)->Q v H'
def tD (K:Frag)(f:FE):TE:=λσ H Q=>∃(B:Hp)(ρ:Env)(d:D)(b:Bool),aH B H/\eA K B σ ρ/\f ρ=some (d,b)/\Fin K B H d b Q
def Ci (K:Frag)(f:FT):TT:=λσ H Q=>∃(B:Hp)(ρ:Env)(c:Bool),aH B H/\eA K B σ ρ/\f ρ=some c/\∀H',aH H H'->Q c H'
def Ti (K:Frag)(f:FA):TA:=λσ H Q=>∃(B:Hp)(ρ:Env)(ds:LD),aH B H/\eA K B σ ρ/\f ρ=some ds/\∀(vs:LV)(H' N:Hp),Ext B N H H'->IsL K N vs ds->Q vs H'
def rD (K:Frag)(op:D->D->OB):R2:=λx y H Q=>∃(B:Hp)(dx M d:D)(b:Bool),aH B H/\Is K B x dx/\Is K B y M/\op dx M=some (d,b)/\Fin K B H d b Q
def eS {K:Frag}{op:D->D->OB}{x y:V}{H:Hp}{Q:VK}{G:Prop}(q:rD K op x y H Q)(k:∀(B:Hp)(c e d:D)(b:Bool),aH B H->Is K B x c->Is K B y e->op c e=some (d,b)->Fin K B H d b Q->G):G:=let⟨B,c,e,d,b,M,i,j,f,g⟩:=q;k B c e d b M i j f g
def Za (K:Frag)(op:D->OB):V->Hp->VK->Prop:=λx H Q=>∃(B:Hp)(dx d:D)(b:Bool),aH B H/\Is K B x dx/\op dx=some (d,b)/\Fin K B H d b Q
def A3 (K:Frag)(op:LD->OB):LV->Hp->VK->Prop:=λxs H Q=>∃(B:Hp)(ds:LD)(d:D)(b:Bool),aH B H/\IsL K B xs ds/\op ds=some (d,b)/\Fin K B H d b Q
def e7 {K:Frag}{op:LD->OB}{xs:LV}{H:Hp}{Q:VK}{G:Prop}(q:A3 K op xs H Q)(k:∀(B:Hp)(ds:LD)(d:D)(b:Bool),aH B H->IsL K B xs ds->op ds=some (d,b)->Fin K B H d b Q->G):G:=let⟨B,ds,d,b,M,i,e,f⟩:=q;k B ds d b M i e f
theorem Fin.one (h:Fin K B H d false Q)(s:aH B H)(i:Is K B v d):Q v H:=h v H B (.refl s) i X9
def Fin.into (h:Fin K B H d b Q)(x:Ext B N H O):Fin K N O d b Q:=λv H' N' y i M=>h v H' N' (x.trans y) i λe=>(M e).back x.hh
@[simp] def fC (d:D):FE:=λ_=>some (d,false)
@[simp] noncomputable def aq (i:Nat):FE:=λρ=>match ρ[i]? with|some (some (d,_))=>some (d,false)|_=>none
@[simp] noncomputable def f2 (op:D->D->OB)(fa M:FE):FE:=λρ=>(fa ρ).bind λx=>(M ρ).bind λy=>op x.1 y.1
@[simp] noncomputable def f1 (op:D->OB)(fa:FE):FE:=λρ=>(fa ρ).bind λx=>op x.1
@[simp] def ay:FA:=λ_=>some []
@[simp] noncomputable def ak (fa:FE)(M:FA):FA:=λρ=>(fa ρ).bind λx=>(M ρ).bind λxs=>some (x.1::xs)
@[simp] noncomputable def fA (op:LD->OB)(fa:FA):FE:=λρ=>(fa ρ).bind op
def Q3 (h:tD K (aq i) σ H Q):∃v,σ[i]? = some (some v)/\Q v H:=by
 obtain⟨B,ρ,d,b,s,r,e,q⟩:=h;unfold aq at e;split at e
 .rename_i d' b' M;cases e
  obtain⟨v,h1,h2⟩:=r.at' i _ _ M;exact⟨v,h1,q.one s h2⟩
 simp_all
def Mf (h:tD K (f2 op fa fb) σ H Q):tD K fa σ H λx a=>tD K fb σ a λy H2=>rD K op x y H2 Q:=by
 refine cX λG g=>?_;obtain⟨B,ρ,d,b,s,r,e,q⟩:=h;refine eX e λx ex e=>?_;refine eX e λy c e=>?_;apply g;refine⟨B,ρ,x.1,x.2,s,r,ex,λv a N M i1 _=>⟨N,ρ,y.1,y.2,M.nh,r.mono M.bn,c,λf H2 N2 O i2 _=>⟨N2,x.1,y.1,d,b,O.nh,i1.mono O.bn,i2,e,?_⟩⟩⟩;exact q.into (M.trans O)
def Zb (h:tD K (f1 op fa) σ H Q):tD K fa σ H λx M=>Za K op x M Q:=by
 refine cX λG g=>?_;obtain⟨B,ρ,d,b,s,r,e,q⟩:=h;refine eX e λx ex e=>?_;apply g;exact⟨B,ρ,x.1,x.2,s,r,ex,λv M N O i1 _=>⟨N,x.1,d,b,O.nh,i1,e,q.into O⟩⟩
def Mg (h:tD K (fA op fa) σ H Q):Ti K fa σ H λxs M=>A3 K op xs M Q:=by
 refine cX λG g=>?_;obtain⟨B,ρ,d,b,s,r,e,q⟩:=h;refine eX e λx ex e=>?_;apply g;exact⟨B,ρ,x,s,r,ex,λv M N O i1=>⟨N,x,d,b,O.nh,i1,e,q.into O⟩⟩
def Mh (h:Ti K ay σ H Q):Q [] H:=by
 obtain⟨B,ρ,ds,s,r,e,q⟩:=h;cases e
 exact q [] H B (.refl s) .nil
def Hy (h:Ti K (ak fa fr) σ H Q):tD K fa σ H λx O=>Ti K fr σ O λxs H2=>Q (x::xs) H2:=by
 refine cX λG g=>?_;obtain⟨B,ρ,ds,s,r,e,q⟩:=h;refine eX e λx ex e=>?_;refine eX e λy b e=>?_;apply g;cases e
 exact⟨B,ρ,x.1,x.2,s,r,ex,λv O N M i1 _=>⟨N,ρ,y,M.nh,r.mono M.bn,b,λvs H2 N2 a i2=>q _ H2 N2 (M.trans a) (.cons (i1.mono a.bn) i2)⟩⟩
@[simp] noncomputable def bJ (f:FE):FT:=λρ=>match f ρ with|some (.bl c,_)=>some c|_=>none
@[simp] noncomputable def fQ (f g:FT):FT:=λρ=>match f ρ with|some true=>g ρ|some false=>some false|none=>none
@[simp] noncomputable def jw (f g:FT):FT:=λρ=>match f ρ with|some true=>some true|some false=>g ρ|none=>none
@[simp] noncomputable def lh (f:FT):FT:=λρ=>(f ρ).map (!·)
open Classical in
noncomputable def di (H:Hp)(P:Addr->Prop):Hp:=λa=>if P a then none else H a
theorem ci (h:¬P a):di H P a=H a:=by unfold di;rw[if_neg h]
theorem AM (h:P a):di H P a=none:=by unfold di;rw[if_pos h]
theorem pW (h:di H P a=some o):¬P a/\H a=some o:=by
 grind[AM,ci]
def bw:aH (di H P) H:=λ_ _ e=>(pW e).2
def dj (e:∀a o,H a=some o->¬P a->H' a=some o/\¬M a):aH (di H P) (di H' M):=λa o q=>by
 grind[pW,ci]
noncomputable def join (N N':Hp):Hp:=λa=>match N a with|some o=>some o|none=>N' a
def dM:aH N (join N N'):=λa o e=>by unfold join;rw[e]
def cR (e:N a=none):join N N' a=N' a:=by unfold join;rw[e]
def own (σ:St)(ρ:Env)(a:Addr):Prop:=∃(i:Nat)(d:D),ρ[i]? = some (some (d,true))/\σ[i]? = some (some (V.ref a))
inductive Bx (K:Frag)(C:Hp):HO->D->Prop where
 |lst {vs:List V}{ds:List D}(h:IsL K C vs ds):Bx K C (.lst vs) (.lst ds)
 |dk {ks:List dh}{vs:List V}{ds:List D}(hl:ks.length=vs.length) (h:IsL K C vs ds) {ob:Obj}:Bx K C (.dK (ks.zip vs) ob) (.dk ks ds)
 |dt {ks:List (List dh)}{vs:List V}{ds:List D}(hl:ks.length=vs.length) (h:IsL K C vs ds):Bx K C (.dT (ks.zip vs)) (.dt ks ds)
def Bx.mono (h:Bx K C o d)(e:aH C M):Bx K M o d:=by
 cases h with
 |lst h=>exact .lst (h.mono e)
 |dk hl h=>exact .dk hl (h.mono e)
 |dt hl h=>exact .dt hl (h.mono e)
def Bx.is (h:Bx K C o d)(e:C a=some o):Is K C (.ref a) d:=by
 cases h with
 |lst h=>exact .lst (fF.of e) h
 |dk hl h=>exact .dk e hl h
 |dt hl h=>exact .dt e hl h
structure cP (K:Frag)(B0 H0 N H:Hp)(σ:St)(ρ:Env):Prop where
 bh:aH B0 H0
 tb:Tb K B0
 ext:Ext B0 N H0 H
 len:ρ.length=σ.length
 sh:∀(i:Nat)(d:D),ρ[i]? = some (some (d,false))->∃v,σ[i]? = some (some v)/\Is K (di N (own σ ρ)) v d
 ow:∀(i:Nat)(d:D),ρ[i]? = some (some (d,true))->∃(a:Addr)(o:HO),σ[i]? = some (some (V.ref a))/\N a=some o/\H0 a=none/\Bx K (di N (own σ ρ)) o d
 inj:∀(i j:Nat)(a:Addr)(d e:D),ρ[i]? = some (some (d,true))->ρ[j]? = some (some (e,true))->σ[i]? = some (some (V.ref a))->σ[j]? = some (some (V.ref a))->i=j
def wa (K:Frag)(B0 H0 H:Hp)(σ:St)(ρ:Env):Prop:=∃N,cP K B0 H0 N H σ ρ
section
variable {K:Frag}{B0 H0 N H H':Hp}{σ:St}{ρ:Env}
def cP.owL (s:cP K B0 H0 N H σ ρ)(i:Nat)(d:D)(q:ρ[i]? = some (some (.lst es,true)))(hd:d=.lst es:=by rfl):∃(a:Addr)(vs:LV)(ds:LD),d=.lst ds/\σ[i]? = some (some (V.ref a))/\N a=some (.lst vs)/\H0 a=none/\IsL K (di N (own σ ρ)) vs ds:=by
 obtain⟨a,o,h1,h2,h3,h4⟩:=s.ow i _ q;cases h4 with
 |lst h4=>exact⟨a,_,es,hd,h1,h2,h3,h4⟩
def boxed:HO->Prop
 |.lst _|.dK _ _|.dT _=>True
 |_=>False
def Bx.boxed (h:Bx K C o d):boxed o:=by cases h<;>exact trivial
def cP.owned (s:cP K B0 H0 N H σ ρ)(h:own σ ρ a):∃o,(N a=some o/\boxed o)/\H0 a=none:=by
 refine cX λG g=>?_;obtain⟨i,d,h1,h2⟩:=h;obtain⟨O,o,h3,h4,h5,M⟩:=s.ow i d h1;apply g;rw[h2]at h3;cases h3;exact⟨o,⟨h4,M.boxed⟩,h5⟩
def cP.rep (s:cP K B0 H0 N H σ ρ):eA K N σ ρ:=⟨s.tb.mono s.ext.bn,λi d b q=>by
 cases b with
 |false=>obtain⟨v,h1,h2⟩:=s.sh i d q;exact⟨v,h1,h2.mono bw⟩
 |true=>
  obtain⟨a,o,h2,h3,_,h4⟩:=s.ow i d q;exact⟨_,h2,(h4.mono bw).is h3⟩⟩
noncomputable def kZ (ρ:Env):Env:=ρ.map λx=>match x with|some (d,false)=>some (d,false)|_=>none
def Hz {i:Nat}{d:D}{b:Bool}(h:(kZ ρ)[i]? = some (some (d,b))):b=false/\ρ[i]? = some (some (d,false)):=by
 unfold kZ at h;rw[vA]at h;cases e:ρ[i]? with
 |none=>rw[e]at h;cases h
 |some x=>
  rw[e]at h;match x,h with
  |some (d',false),h=>cases h;exact⟨rr,rr⟩
  |some (d',true),h=>cases h
  |none,h=>cases h
def cP.tbC (s:cP K B0 H0 N H σ ρ):Tb K (di N (own σ ρ)):=λx hx c P q=>by
 have z:=s.tb.mono s.ext.bn x hx c P q;rw[ci]
 .exact z
 .intro y;obtain⟨o,⟨y,M⟩,_⟩:=s.owned y;rw[z]at y;cases y;exact M
def cP.repH (s:cP K B0 H0 N H σ ρ):eA K (di N (own σ ρ)) σ (kZ ρ):=⟨s.tbC,λi d b q=>by
 obtain⟨rfl,q2⟩:=Hz q;exact s.sh i d q2⟩
def cP.grow (s:cP K B0 H0 N H σ ρ)(x:Ext N N' H H'):cP K B0 H0 N' H' σ ρ:=by
 have c:aH (di N (own σ ρ)) _:=dj λa o e q=>⟨x.bn a o e,q⟩;refine⟨s.bh,s.tb,s.ext.trans x,s.len,λi d q=>?_,λi d q=>?_,s.inj⟩
 .obtain⟨v,h1,h2⟩:=s.sh i d q;exact⟨v,h1,h2.mono c⟩
 .obtain⟨a,o,h2,h3,h4,h5⟩:=s.ow i d q;exact⟨a,o,h2,x.bn _ _ h3,h4,h5.mono c⟩
def cP.growH (s:cP K B0 H0 N H σ ρ)(x:Ext (di N (own σ ρ)) N' H H'):cP K B0 H0 (join N N') H' σ ρ/\aH N' (di (join N N') (own σ ρ)):=by
 have M:Ext N (join N N') H H':=by
  refine⟨x.hh,dM,λa o e=>?_,λa o e=>?_⟩
  .cases q:N a with
   |some u=>
    have:join N N' a=some u:=dM _ _ q;rw[this]at e;cases e;exact x.hh _ _ (s.ext.nh _ _ q)
   |none=>rw[cR q]at e;exact x.nh _ _ e
  .cases q:N a with
   |some u=>
    simp_all[join]
   |none=>
    rw[cR q]at e;rcases x.new a o e with z|z
    .have:=bw _ _ z;simp_all
    .exact .inr z
 refine⟨s.grow M,λa o e=>?_⟩;rcases x.new a o e with z|z
 .obtain⟨O,b⟩:=pW z;rw[ci O];exact dM _ _ b
 .have c:=s.ext.nh.free z;have:¬own σ ρ a:=λq=>by obtain⟨vs,⟨q,_⟩,_⟩:=s.owned q;lia
  simp_all[ci,cR]
noncomputable def unown (ρ:Env):Env:=ρ.map λx=>x.map λy=>(y.1,false)
def kn {i:Nat}{d:D}{b:Bool}(h:(unown ρ)[i]? = some (some (d,b))):b=false/\∃c,ρ[i]? = some (some (d,c)):=by
 unfold unown at h;simp_all<;>lia
def tE {a:Addr}:¬own σ (unown ρ) a:=λ⟨i,d,h,_⟩=>by
 obtain⟨z,_⟩:=kn h;cases z
def cP.unown (s:cP K B0 H0 N H σ ρ):cP K B0 H0 N H σ (unown ρ):=by
 refine⟨s.bh,s.tb,s.ext,by unfold DL.unown;rw[vI];exact s.len,λi d q=>?_,λi d q=>?_,λi j a d e q=>?_⟩
 .obtain⟨_,c,q⟩:=kn q;obtain⟨v,h1,h2⟩:=s.rep.at' i d c q;exact⟨v,h1,h2.mono λa o e=>by rw[ci tE];exact e⟩
 .obtain⟨z,_⟩:=kn q;cases z
 .obtain⟨z,_⟩:=kn q;cases z
def bC {α:Type}{l:List α}{i j:Nat}{x y:α}(h:(l.set i x)[j]? = some y):(i=j/\x=y)\/(i≠j/\l[j]? = some y):=by
 by_cases e:i=j
 .subst e;rw[List.getElem?_set]at h;split at h
  .split at h
   .exact .inl ⟨rr,vK h⟩
   .cases h
  .contradiction
 .rw[vB e]at h;exact .inr ⟨e,h⟩
def tF {α M:Type}{l:List α}{m:List M}{i:Nat}{x y:α}(h:(l.set i x)[i]? = some y)(e:l.length=m.length):i<m.length:=by
 obtain⟨h,_⟩:=vV h;rw[length_set]at h;lia
def wb {i:Nat}{v:V}{x:OB}{a:Addr}(h:own (σ.set i (some v)) (ρ.set i x) a):(v=.ref a/\∃d,x=some (d,true))\/∃j,j≠i/\∃d,ρ[j]? = some (some (d,true))/\σ[j]? = some (some (V.ref a)):=by
 obtain⟨j,d,h1,h2⟩:=h;rcases bC h1 with⟨e,q⟩|⟨e,q⟩
 .rcases bC h2 with⟨e2,q2⟩|⟨e2,q2⟩
  .cases q2;exact .inl ⟨rr,d,q⟩
  .exact absurd e e2
 .rcases bC h2 with⟨e2,q2⟩|⟨e2,q2⟩
  .exact absurd e2 e
  .exact .inr ⟨j,λz=>e z.symm,d,q,q2⟩
def cP.bind (s:cP K B0 H0 N H σ ρ){i:Nat}{v:V}{d:D}(h:Is K (di N (own σ ρ)) v d):cP K B0 H0 N H (σ.set i (some v)) (ρ.set i (some (d,false))):=by
 have o:∀a,own (σ.set i (some v)) (ρ.set i (some (d,false))) a->own σ ρ a:=λa q=>by
  rcases wb q with⟨_,d',p⟩|⟨j,_,d',b,q2⟩
  .cases p
  .exact⟨j,d',b,q2⟩
 have c:aH (di N _) _:=dj λa u e q=>⟨e,λz=>q (o a z)⟩;refine⟨s.bh,s.tb,s.ext,by simp[s.len],λj e q=>?_,λj e q=>?_,λj k a e f q g h1 h2=>?_⟩
 .rcases bC q with⟨rfl,p⟩|⟨ne,p⟩
  .cases p
   have hi:=tF q s.len;exact⟨v,by simp[hi],h.mono c⟩
  .obtain⟨w,h1,h2⟩:=s.sh j e p;exact⟨w,by simp_all,h2.mono c⟩
 .rcases bC q with⟨rfl,p⟩|⟨ne,p⟩
  .cases p
  .obtain⟨a,o,h1,h2,h3,h4⟩:=s.ow j e p;exact⟨a,o,by simp_all,h2,h3,h4.mono c⟩
 .rcases bC q with⟨rfl,p⟩|⟨ne,p⟩
  .cases p
  .rcases bC g with⟨rfl,M⟩|⟨O,M⟩
   .cases M
   .rw[vB ne]at h1;rw[vB O]at h2;exact s.inj j k a e f p M h1 h2
def cP.bindOwn (s:cP K B0 H0 N H σ ρ){i:Nat}{a:Addr}{ob:HO}{dd:D}(x:N a=some ob)(h0:H0 a=none)(O:∀(j:Nat)(d:D),ρ[j]? = some (some (d,true))->σ[j]? ≠ some (some (V.ref a)))
  (l:∀(j:Nat)(d:D),j≠i->ρ[j]? = some (some (d,false))->∃v,σ[j]? = some (some v)/\Is K (di N (λb=>own σ ρ b\/b=a)) v d) (m:∀(j:Nat)(d:D),j≠i->ρ[j]? = some (some (d,true))->∃(g:Addr)(o:HO),σ[j]? = some (some (V.ref g))/\N g=some o/\Bx K (di N (λb=>own σ ρ b\/b=a)) o d)
  (n:Bx K (di N (λb=>own σ ρ b\/b=a)) ob dd):cP K B0 H0 N H (σ.set i (some (.ref a))) (ρ.set i (some (dd,true))):=by
 have o:∀b,own (σ.set i (some (V.ref a))) (ρ.set i (some (dd,true))) b->own σ ρ b\/b=a:=λb q=>by
  rcases wb q with⟨p,_⟩|⟨j,_,d',y,q2⟩
  .cases p;exact .inr rr
  .exact .inl ⟨j,d',y,q2⟩
 have c:aH (di N _) _:=dj λb u e q=>⟨e,λz=>q (o b z)⟩;refine⟨s.bh,s.tb,s.ext,by simp[s.len],λj e q=>?_,λj e q=>?_,λj k b e f q t h1 h2=>?_⟩
 .rcases bC q with⟨rfl,p⟩|⟨ne,p⟩
  .cases p
  .obtain⟨w,h1,h2⟩:=l j e (Ne.symm ne) p;exact⟨w,by simp_all,h2.mono c⟩
 .rcases bC q with⟨rfl,p⟩|⟨ne,p⟩
  .cases p
   have hi:=tF q s.len;exact⟨a,ob,by simp[hi],x,h0,n.mono c⟩
  .obtain⟨g,o',h1,h2,h4⟩:=m j e (Ne.symm ne) p;have h3:H0 g=none:=by
    obtain⟨B,_,k1,_,k3,_⟩:=s.ow j e p;simp_all
   exact⟨g,o',by simp_all,h2,h3,h4.mono c⟩
 .rcases bC q with⟨rfl,p⟩|⟨ne,p⟩
  .rcases bC t with⟨rfl,h⟩|⟨M,h⟩
   .rfl
   .rw[vB M]at h2;have A:V.ref a=V.ref b:=by
     rcases bC h1 with⟨_,z⟩|⟨z,_⟩
     .exact vK z
     .exact absurd rr z
    cases A
    exact absurd h2 (O k f h)
  .rcases bC t with⟨rfl,h⟩|⟨M,h⟩
   .rw[vB ne]at h1;have r:V.ref a=V.ref b:=by
     rcases bC h2 with⟨_,z⟩|⟨z,_⟩
     .exact vK z
     .exact absurd rr z
    cases r
    exact absurd h1 (O j e p)
   .rw[vB ne]at h1;rw[vB M]at h2;exact s.inj j k b e f p h h1 h2
end
set_option genInjectivity true in
inductive Res where
 |nx (ρ:Env)|rt (d:D) (b:Bool)|bk (ρ:Env)|ct (ρ:Env)
abbrev FS:=Env->Option Res
def UD (K:Frag)(B0 H0:Hp)(E:Ends):Res->Prop
 |.nx ρ=>∀σ H,wa K B0 H0 H σ ρ->E.nx σ H
 |.rt d b=>∀v H N,Ext B0 N H0 H->Is K N v d->(b=true->Th K H0 N v d)->E.rt v H
 |.bk ρ=>∀σ H,wa K B0 H0 H σ ρ->E.bk σ H
 |.ct ρ=>∀σ H,wa K B0 H0 H σ ρ->E.ct σ H
def nH (K:Frag)(g:FS):TS:=λE σ H=>∃(B0 H0:Hp)(ρ:Env)(r:Res),wa K B0 H0 H σ ρ/\g ρ=some r/\UD K B0 H0 E r
section
variable {K:Frag}{B0 H0 N H H':Hp}{σ:St}{ρ:Env}{E:Ends}
def cP.writeB (s:cP K B0 H0 N H σ ρ)(hi:ρ[i]? = some (some (d,true)))(M:σ[i]? = some (some (V.ref a)))(h:Bx K (di N (own σ ρ)) ob dd):
  cP K B0 H0 (upd N a ob) (upd H a ob) σ (ρ.set i (some (dd,true))):=by
 have oa:own σ ρ a:=⟨i,d,hi,M⟩;obtain⟨ws,hw,h0⟩:=s.owned oa;have m:B0 a=none:=s.bh.free h0;have o:∀b,own σ (ρ.set i (some (dd,true))) b↔own σ ρ b:=λb=>by
  constructor
  .rintro⟨j,e,O,q2⟩;rcases bC O with⟨rfl,p⟩|⟨_,p⟩
   .exact⟨i,d,hi,q2⟩
   .exact⟨j,e,p,q2⟩
  .rintro⟨j,e,O,q2⟩;by_cases z:i=j
   .subst z;exact⟨i,dd,by rw[getElem?_set_self (vV hi).1],q2⟩
   .exact⟨j,e,by simp_all,q2⟩
 have c:aH (di N (own σ ρ)) (di (upd N a ob) (own σ (ρ.set i (some (dd,true))))):=dj λb u e q=>by
  have ne:b≠a:=λz=>q (z ▸ oa);exact⟨by rw[a6 ne];exact e,λz=>q ((o b).mp z)⟩
 refine⟨s.bh,s.tb,⟨λb u e=>?_,λb u e=>?_,λb u e=>?_,λb u e=>?_⟩,by rw[length_set];exact s.len,λj e q=>?_,λj e q=>?_,λj k b e f q n h1 h2=>?_⟩
 .rw[a6 (λz=>by subst z;rw[h0]at e;cases e)];exact s.ext.hh _ _ e
 .rw[a6 (λz=>by subst z;rw[m]at e;cases e)];exact s.ext.bn _ _ e
 .by_cases z:b=a
  .simp_all[au]
  .rw[a6 z]at e |-;exact s.ext.nh _ _ e
 .by_cases z:b=a
  .subst z;exact .inr h0
  .rw[a6 z]at e;exact s.ext.new _ _ e
 .rcases bC q with⟨rfl,p⟩|⟨ne,p⟩
  .cases p
  .obtain⟨v,h1,h2⟩:=s.sh j e p;exact⟨v,h1,h2.mono c⟩
 .rcases bC q with⟨rfl,p⟩|⟨ne,p⟩
  .cases p
   exact⟨a,ob,M,au,h0,h.mono c⟩
  .obtain⟨l,o',h1,h2,h3,h4⟩:=s.ow j e p;have r:l≠a:=λz=>by subst z;exact ne (s.inj i j _ d e hi p M h1)
   exact⟨l,o',h1,by rw[a6 r];exact h2,h3,h4.mono c⟩
 .have get:∀ {j:Nat}{e:D},(ρ.set i (some (dd,true)))[j]? = some (some (e,true))->∃g,ρ[j]? = some (some (g,true)):=λ{j e} q=>by
   rcases bC q with⟨rfl,p⟩|⟨ne,p⟩
   .exact⟨d,hi⟩
   .exact⟨e,p⟩
  obtain⟨g,O⟩:=get q;obtain⟨t,q2⟩:=get n;exact s.inj j k b g t O q2 h1 h2
def cP.write (s:cP K B0 H0 N H σ ρ)(hi:ρ[i]? = some (some (d,true)))(M:σ[i]? = some (some (V.ref a)))(h:IsL K (di N (own σ ρ)) vs ds):
  cP K B0 H0 (upd N a (.lst vs)) (upd H a (.lst vs)) σ (ρ.set i (some (.lst ds,true))):=s.writeB hi M (.lst h)
def cP.tups (s:cP K B0 H0 N H σ ρ):∀a vs,gN K N a vs->gN K (di N (own σ ρ)) a vs:=λa vs h=>by
 have key:∀u,N a=some u->¬boxed u->di N (own σ ρ) a=some u:=λu e hu=>by
  rw[ci λz=>?_];exact e;obtain⟨ws,⟨q,M⟩,_⟩:=s.owned z;simp_all
 rcases h with (h|⟨o,h⟩)|h
 .exact .inl (.inl (key _ h (λq=>q)))
 .exact .inl (.inr ⟨o,key _ h (λq=>q)⟩)
 .exact .inr h
def cP.flat (s:cP K B0 H0 N H σ ρ)(h:Is K N v d)(n:aR d=true):Is K (di N (own σ ρ)) v d:=h.keepT s.tups n
def cP.flats (s:cP K B0 H0 N H σ ρ)(h:IsL K N v d)(n:aX d=true):IsL K (di N (own σ ρ)) v d:=h.keepT s.tups n
def cP.rebase (s:cP K B0 H0 N H σ ρ):cP K (di N (own σ ρ)) (di H (own σ ρ)) N H σ ρ:=
 ⟨dj λa o e q=>⟨s.ext.nh _ _ e,q⟩,s.tbC,⟨bw,bw,s.ext.nh,λa o e=>by
  grind[AM,ci]⟩,s.len,s.sh,λi d q=>by
   obtain⟨a,o,h1,h2,_,h4⟩:=s.ow i d q;exact⟨a,o,h1,h2,AM ⟨i,d,q,h1⟩,h4⟩,s.inj⟩
def cP.unbase (s:cP K B0 H0 N H σ ρ)(t:cP K (di N (own σ ρ)) (di H (own σ ρ)) N' H' O ρ'):cP K B0 H0 N' H' O ρ':=by
 have h0:aH H0 (di H (own σ ρ)):=λa o e=>by
  rw[ci λz=>?_];exact s.ext.hh _ _ e;obtain⟨_,_,q⟩:=s.owned z;lia
 have M:aH B0 (di N (own σ ρ)):=λa o e=>by
  rw[ci λz=>?_];exact s.ext.bn _ _ e;obtain⟨_,_,q⟩:=s.owned z;rw[s.bh _ _ e]at q;cases q
 refine⟨s.bh,s.tb,⟨h0.trans t.ext.hh,M.trans t.ext.bn,t.ext.nh,λa o e=>?_⟩,t.len,t.sh,λi d q=>?_,t.inj⟩
 .rcases t.ext.new a o e with z|z
  .exact s.ext.new a o (bw _ _ z)
  .exact .inr (h0.free z)
 .obtain⟨a,o,h1,h2,h3,h4⟩:=t.ow i d q;exact⟨a,o,h1,h2,h0.free h3,h4⟩
def cP.based (t:cP K B0 H0 N H σ ρ):aH B0 (di N (own σ ρ)):=λa o e=>by
 rw[ci λz=>?_];exact t.ext.bn _ _ e;obtain⟨_,_,q⟩:=t.owned z;rw[t.bh _ _ e]at q;cases q
@[simp] noncomputable def bN (g h:FS):FS:=λρ=>match g ρ with|some (.nx ρ')=>h ρ'|r=>r
@[simp] def xU:FS:=λρ=>some (.nx ρ)
@[simp] noncomputable def GO (c:FT)(g h:FS):FS:=λρ=>match c ρ with|some true=>g ρ|some false=>h ρ|none=>none
@[simp] noncomputable def Fm (f:FE):FS:=λρ=>(f ρ).map λx=>.rt x.1 x.2
@[simp] noncomputable def OL:D->Bool
 |.dk _ _=>true
 |.dt _ _=>true
 |_=>false
@[simp] def oF (i:Nat):FS:=λρ=>match ρ[i]? with|some (some (d,b))=>some (.rt d (b && !OL d))|_=>none
@[simp] def xV:D->Bool
 |.lst ds=>aX ds
 |_=>false
@[simp] def setE (ρ:Env)(i:Nat)(d:D)(b:Bool):Env:=
 if aR d=true then ρ.set i (some (d,false))else if b=true/\xV d=true then ρ.set i (some (d,true))else (unown ρ).set i (some (d,false))
@[simp] def dN (i:Nat)(f:FE):FS:=λρ=>(f ρ).map λx=>.nx (setE ρ i x.1 x.2)
@[simp] def Cj (i:Nat)(f:FE):FS:=λρ=>(f (kZ ρ)).map λx=>.nx (ρ.set i (some (x.1,false)))
@[simp] noncomputable def xW (i:Nat)(f:FE):FS:=λρ=>match ρ[i]? with
 |some (some (.lst ds,true))=>(f ρ).bind λx=>if aR x.1=true/\ds.length<sizeLine then some (.nx (ρ.set i (some (.lst (ds++[x.1]),true))))else none
 |_=>none
def Mi (q:nH K (bN g h) E σ H):TY (nH K g) (nH K h) E σ H:=by
 obtain⟨B0,H0,ρ,r,s,e,p⟩:=q;unfold bN at e;cases M:g ρ with
 |none=>rw[M]at e;cases e
 |some r1=>
  rw[M]at e;cases r1 with
  |nx ρ'=>exact⟨B0,H0,ρ,.nx ρ',s,M,λO H' s'=>⟨B0,H0,ρ',r,s',e,p⟩⟩
  |rt d b=>cases e;exact⟨B0,H0,ρ,_,s,M,p⟩
  |bk ρ'=>cases e;exact⟨B0,H0,ρ,_,s,M,p⟩
  |ct ρ'=>cases e;exact⟨B0,H0,ρ,_,s,M,p⟩
def HA (q:nH K xU E σ H):OA E σ H:=by
 obtain⟨B0,H0,ρ,r,s,e,p⟩:=q;cases e
 exact p σ H s
def wa.grown (s:cP K B0 H0 N H σ ρ)(h:aH H H'):wa K B0 H0 H' σ ρ:=⟨N,s.grow (.grow s.ext.nh h)⟩
def Q4 (q:nH K (GO c g h) E σ H):Ub (Ci K c) (nH K g) (nH K h) E σ H:=by
 obtain⟨B0,H0,ρ,r,⟨N,s⟩,e,p⟩:=q;unfold GO at e;cases M:c ρ with
 |none=>rw[M]at e;cases e
 |some b=>
  rw[M]at e;refine⟨N,ρ,b,s.ext.nh,s.rep,M,λO h1=>?_⟩;cases b with
  |true=>rw[if_pos rr];exact⟨B0,H0,ρ,r,.grown s h1,e,p⟩
  |false=>rw[if_neg H9];exact⟨B0,H0,ρ,r,.grown s h1,e,p⟩
def Mj (q:nH K (Fm f) E σ H):PZ (tD K f) E σ H:=by
 refine cX λG g=>?_;obtain⟨B0,H0,ρ,r,⟨N,s⟩,e,p⟩:=q;refine eZ e λx ex e=>?_;apply g;subst e;exact⟨N,ρ,x.1,x.2,s.ext.nh,s.rep,ex,λv M N1 O i1 f1=>p v M N1 (s.ext.trans O) i1 λb=>(f1 b).back s.ext.hh⟩
def HB (q:nH K (oF i) E σ H):PZ (GY i) E σ H:=by
 obtain⟨B0,H0,ρ,r,⟨N,s⟩,e,p⟩:=q;unfold oF at e;split at e
 .rename_i d b ei;cases e
  cases b with
  |false=>
   obtain⟨v,h1,h2⟩:=s.sh i d ei;exact⟨v,h1,p v H N s.ext (h2.mono bw) X9⟩
  |true=>
   obtain⟨a,o,h1,h2,h3,h4⟩:=s.ow i d ei;cases h4 with
   |lst h4=>exact⟨_,h1,p _ H N s.ext (.lst (fF.of h2) (h4.mono bw)) λ_=>⟨a,_,_,rr,rr,h3,h2,h4.mono bw⟩⟩
   |dk hl h4=>exact⟨_,h1,p _ H N s.ext (.dk h2 hl (h4.mono bw)) X9⟩
   |dt hl h4=>exact⟨_,h1,p _ H N s.ext (.dt h2 hl (h4.mono bw)) X9⟩
 simp_all
def cP.setE (s:cP K B0 H0 N H σ ρ)(x:Ext N N1 H H1)(h:Is K N1 v d)(f:b=true->Th K H N1 v d):cP K B0 H0 N1 H1 (σ.set i (some v)) (setE ρ i d b):=by
 have s1:=s.grow x;unfold DL.setE;by_cases hn:aR d=true
 .rw[if_pos hn];exact s1.bind (s1.flat h hn)
 .rw[if_neg hn];by_cases hb:b=true/\xV d=true
  .rw[if_pos hb];obtain⟨es,rfl⟩:∃es,d=.lst es:=by cases d<;>first|exact⟨_,rr⟩|(simp at hb)
   obtain⟨a,vs,ds,rfl,z,ha,M,hs⟩:=f hb.1;cases z
   have O:N a=none:=s.ext.nh.free ha;have g:¬own σ ρ a:=λz=>by obtain⟨ws,⟨q,_⟩,_⟩:=s.owned z;lia
   have c:aH (di N (own σ ρ)) (di N1 (λb=>own σ ρ b\/b=a)):=dj λb u e q=>⟨x.bn _ _ e,λz=>z.elim q λz=>by subst z;rw[O]at e;cases e⟩;refine s1.bindOwn M (s.ext.hh.free ha) (λj e q z=>g ⟨j,e,q,z⟩) (λj e _ q=>?_) (λj e _ q=>?_) (.lst (hs.keepT (λt l st=>?_) hb.2))
   .obtain⟨w,h1,h2⟩:=s.sh j e q;exact⟨w,h1,h2.mono c⟩
   .obtain⟨k,o',h1,h2,_,h4⟩:=s.ow j e q;exact⟨k,o',h1,x.bn _ _ h2,h4.mono c⟩
   .have key:∀u,N1 t=some u->¬boxed u->di N1 (λb=>own σ ρ b\/b=a) t=some u:=λu e hu=>by
     rw[ci λz=>?_];exact e;rcases z with z|z
     .obtain⟨ws,⟨q,m⟩,_⟩:=s1.owned z;simp_all
     .subst z;rw[e]at M;cases M;exact hu trivial
    rcases st with (st|⟨o,st⟩)|st
    .exact .inl (.inl (key _ st (λq=>q)))
    .exact .inl (.inr ⟨o,key _ st (λq=>q)⟩)
    .exact .inr st
  .rw[if_neg hb];exact s1.unown.bind (h.mono λa o e=>by rw[ci tE];exact e)
def Ck (q:nH K (dN i f) E σ H):EV (tD K f) (i7 i) E σ H:=by
 refine cX λG g=>?_;obtain⟨B0,H0,ρ,r,⟨N,s⟩,e,p⟩:=q;refine eZ e λx ex e=>?_;apply g;subst e;exact⟨N,ρ,x.1,x.2,s.ext.nh,s.rep,ex,λv M N1 O i1 f1=>p _ M ⟨N1,s.setE O i1 f1⟩⟩
def HC (q:nH K (Cj i f) E σ H):EV (tD K f) (i7 i) E σ H:=by
 refine cX λG g=>?_;obtain⟨B0,H0,ρ,r,⟨N,s⟩,e,p⟩:=q;refine eZ e λx ex e=>?_;apply g;subst e;refine⟨di N (own σ ρ),kZ ρ,x.1,x.2,bw.trans s.ext.nh,s.repH,ex,λv M N1 O i1 f1=>?_⟩;obtain⟨s1,c⟩:=s.growH O;exact p _ M ⟨_,s1.bind (i1.mono c)⟩
def Mk (q:nH K (xW i f) E σ H):∃(a:Addr)(us:LV),σ[i]? = some (some (V.ref a))/\H a=some (.lst us)/\OF (tD K f) Ux σ H λxs H2=>Cg (.ref a) xs H2 λ_ b=>E.nx σ b:=by
 obtain⟨B0,H0,ρ,r,⟨N,s⟩,e,p⟩:=q;unfold xW at e;split at e
 .rename_i ds ei;refine eX e λx ex e=>?_;split at e
  .rename_i hx;cases e
   obtain⟨a,vs,M,z,h1,h2,h3,h4⟩:=s.owL i _ ei;cases z
   refine⟨a,vs,h1,s.ext.nh _ _ h2,N,ρ,x.1,x.2,s.ext.nh,s.rep,ex,λv c N1 O i1 f1=>⟨a,vs,v,rr,rr,O.hh _ _ (s.ext.nh _ _ h2),by rw[h4.length];exact hx.2,?_⟩⟩;have s1:=s.grow O;obtain⟨d,g,M,z,k1,k2,_,k4⟩:=s1.owL i _ ei;cases z
   rw[h1]at k1;cases k1;rw[O.bn _ _ h2]at k2;cases k2;exact p σ _ ⟨_,s1.write ei h1 (k4.append (.cons (s1.flat i1 hx.1) .nil))⟩
  simp_all
 simp_all
end
noncomputable def fT (c:FT)(g:FS):Nat->Env->Option Res
 |0,_=>none
 |n+1,ρ=>match c ρ with
  |some true=>match g ρ with
   |some (.nx ρ')=>fT c g n ρ'
   |some (.ct ρ')=>fT c g n ρ'
   |some (.bk ρ')=>some (.nx ρ')
   |r=>r
  |some false=>some (.nx ρ)
  |none=>none
def Fo (q:nH K (fT c g n) E σ H):Hd (Ci K c) (nH K g) E σ H:=by
 obtain⟨B0,H0,ρ,r,s,e,p⟩:=q;refine⟨λm σ H=>∃ρ,wa K B0 H0 H σ ρ/\fT c g m ρ=some r,⟨n,ρ,s,e⟩,?_⟩;rintro m σ H ⟨ρ,⟨N,s⟩,e⟩;cases m with
 |zero=>cases e
 |succ m=>
  unfold fT at e;cases O:c ρ with
  |none=>rw[O]at e;cases e
  |some b=>
   rw[O]at e;refine⟨N,ρ,b,s.ext.nh,s.rep,O,λf h1=>?_⟩;cases b with
   |false=>rw[if_neg H9];cases e;exact p σ f (.grown s h1)
   |true=>
    rw[if_pos rr];refine⟨λσ H=>∃ρ,wa K B0 H0 H σ ρ/\fT c g m ρ=some r,λM H' w=>⟨m,Nat.lt_succ_self m,w⟩,?_⟩;cases a:g ρ with
    |none=>rw[a]at e;cases e
    |some r1=>
     rw[a]at e;refine⟨B0,H0,ρ,r1,.grown s h1,a,?_⟩;cases r1 with
     |nx ρ'=>exact λM H' s'=>⟨ρ',s',e⟩
     |ct ρ'=>exact λM H' s'=>⟨ρ',s',e⟩
     |bk ρ'=>cases e;exact λM H' s'=>p M H' s'
     |rt d b=>cases e;exact p
def nO (K:Frag)(J:It)(B:Hp)(ds:LD):Prop:=∀(i:Nat)(H:Hp),aH B H ->
 (∀d,ds[i]? = some d->J.go i H/\∀x H',J.yld i H x H'->∃N,Ext B N H H'/\Is K N x d)/\(ds.length<=i->J.stop i H)
def tDI (K:Frag)(f:FA):TI:=λσ H R=>∃(B:Hp)(ρ:Env)(ds:LD),aH B H/\eA K B σ ρ/\f ρ=some ds/\∀(J:It)(H' N:Hp),Ext B N H H'->nO K J N ds->R J H'
abbrev FG:=D->Env->Option Env
def Lo (K:Frag)(tg:FG)(g:TG):Prop:=∀(B0 H0 N H:Hp)(σ:St)(ρ ρ':Env)(v:V)(d:D)(Q:St->Hp->Prop),cP K B0 H0 N H σ ρ->Is K (di N (own σ ρ)) v d->tg d ρ=some ρ' ->
 (∀M H',wa K B0 H0 H' M ρ'->Q M H')->g v σ H Q
@[simp] noncomputable def fz (i:Nat):FG:=λd ρ=>some (ρ.set i (some (d,false)))
def HD:Lo K (fz i) (i7 i):=by
 intro B0 H0 N H σ ρ ρ' v d Q s h e k;cases e
 exact k _ H ⟨N,s.bind h⟩
noncomputable def fH (tg:FG)(g:FS):LD->Env->Option Res
 |[],ρ=>some (.nx ρ)
 |d::ds,ρ=>(tg d ρ).bind λM=>match g M with
  |some (.nx ρ')=>fH tg g ds ρ'
  |some (.ct ρ')=>fH tg g ds ρ'
  |some (.bk ρ')=>some (.nx ρ')
  |r=>r
@[simp] def HE (tg:FG)(g:FS)(ρ:Env):fH tg g [] ρ=some (.nx ρ):=by rw[fH]
@[simp] theorem tG (tg:FG)(g:FS)(d:D)(ds:LD)(ρ:Env):fH tg g (d::ds) ρ=(tg d ρ).bind λM=>match g M with
  |some (.nx ρ')=>fH tg g ds ρ'
  |some (.ct ρ')=>fH tg g ds ρ'
  |some (.bk ρ')=>some (.nx ρ')
  |r=>r:=by rw[fH]
@[simp] def Fp (f:FA)(tg:FG)(g:FS):FS:=λρ=>(f (kZ ρ)).bind λds=>fH tg g ds ρ
def xX (w:Lo K tg t)(s1:cP K B0 H0 N H1 σ ρ)(c:aH N1 (di N (own σ ρ)))(J1:nO K J N1 ds)(e:fH tg g ds ρ=some r)(p:UD K B0 H0 E r):
  ∃W:Nat->Nat->St->Hp->Prop,(∃m,W 0 m σ H1)/\∀i m σ H,W i m σ H->(J.stop i H/\E.nx σ H)\/(J.go i H/\∃N:St->Hp->Prop,(∀M H',N M H'->∃n,n<m/\W (i+1) n M H')/\∀x H',J.yld i H x H'->t x σ H' λh H2=>nH K g { E with nx:=N,ct:=N,bk:=E.nx } h H2):=by
 refine⟨λi m σ H=>∃(N:Hp)(ρ:Env),cP K B0 H0 N H σ ρ/\aH N1 (di N (own σ ρ))/\m=ds.length - i/\i<=ds.length/\fH tg g (ds.drop i) ρ=some r,⟨ds.length,_,ρ,s1,c,rr,uN _,e⟩,?_⟩;clear e s1 c;rintro i m σ H ⟨N,ρ,s,c,rfl,hi,e⟩;have hs:aH N1 H:=c.trans (bw.trans s.ext.nh);obtain⟨A,B⟩:=J1 i H hs;by_cases O:i<ds.length
 .obtain⟨go,C⟩:=A ds[i] (by simp[O]);rw[List.drop_eq_getElem_cons O]at e;refine eX e λj e1 e=>?_;refine .inr ⟨go,λM H'=>∃(N:Hp)(ρ:Env),cP K B0 H0 N H' M ρ/\aH N1 (di N (own M ρ))/\fH tg g (ds.drop (i+1)) ρ=some r,λM H' ⟨N',ρ',s',D,F⟩=>⟨_,N9,N',ρ',s',D,rr,O,F⟩,λx H' y=>?_⟩;obtain⟨N2,f,i2⟩:=C x H' y;have G:Ext (di N (own σ ρ)) (join (di N (own σ ρ)) N2) H H':=by
   refine⟨f.hh,dM,λa o e=>?_,λa o e=>?_⟩
   .cases q:di N (own σ ρ) a with
    |some u=>rw[dM _ _ q]at e;cases e;exact f.hh _ _ (s.ext.nh _ _ (bw _ _ q))
    |none=>rw[cR q]at e;exact f.nh _ _ e
   .cases q:di N (own σ ρ) a with
    |some u=>rw[dM _ _ q]at e;simp_all
    |none=>
     rw[cR q]at e;rcases f.new a o e with z|z
     .rw[c _ _ z]at q;cases q
     .exact .inr z
  obtain⟨s2,c2⟩:=s.growH G;have c3:aH N2 (join (di N (own σ ρ)) N2):=λa o e=>by
   rcases f.new a o e with z|z
   .exact dM _ _ (c _ _ z)
   .rw[cR ((bw.trans s.ext.nh).free z)];exact e
  have I:=i2.mono (c3.trans c2);have L:aH N1 (di (join N (join (di N (own σ ρ)) N2)) (own σ ρ)):=(f.bn.trans c3).trans c2;refine w _ _ _ _ _ _ _ _ _ _ s2.rebase I e1 λh H2 ⟨P,Q⟩=>?_;cases l:g j with
  |none=>rw[l]at e;cases e
  |some r1=>
   rw[l]at e;refine⟨_,_,j,r1,⟨P,Q⟩,l,?_⟩;have back:∀ {M:St}{H':Hp}{ρ':Env}{N':Hp},cP K _ _ N' H' M ρ'->cP K B0 H0 N' H' M ρ'/\aH N1 (di N' (own M ρ')):=λt=>⟨s2.unbase t,L.trans t.based⟩;cases r1 with
   |nx ρ'=>exact λM H' ⟨N',t⟩=>⟨N',ρ',(back t).1,(back t).2,e⟩
   |ct ρ'=>exact λM H' ⟨N',t⟩=>⟨N',ρ',(back t).1,(back t).2,e⟩
   |bk ρ'=>cases e;exact λM H' ⟨N',t⟩=>p M H' ⟨N',(back t).1⟩
   |rt d b=>
    cases e
    intro v H' N' k R S;have y:=s2.rebase.ext;have h0:aH H0 (di H' (λ_=>False)):=λa o e=>by rw[ci (λz=>z)];exact k.hh _ _ (by
     rw[ci λz=>?_];exact s2.ext.hh _ _ e;obtain⟨_,_,q⟩:=s2.owned z;lia)
    have T:aH H0 (di H' (λ_=>False)):=h0;have U:aH H0 (di H' (λ_=>False)):=h0;have hc:∀a,di H' (λ_=>False) a=H' a:=λa=>ci (λz=>z);have hb:aH H0 (di _ (own σ ρ)):=λa o e=>by
     rw[ci λz=>?_];exact s2.ext.hh _ _ e;obtain⟨_,_,q⟩:=s2.owned z;lia
    have bb:aH B0 (di _ (own σ ρ)):=λa o e=>by
     rw[ci λz=>?_];exact s2.ext.bn _ _ e;obtain⟨_,_,q⟩:=s2.owned z;rw[s2.bh _ _ e]at q;cases q
    refine p v H' N' ⟨hb.trans k.hh,bb.trans k.bn,k.nh,λa o e=>?_⟩ R λz=>(S z).back hb;rcases k.new a o e with z|z
    .exact s2.ext.new a o (bw _ _ z)
    .exact .inr (hb.free z)
 .have ei:i=ds.length:=N9
  subst ei;rw[List.drop_eq_nil_of_le (vT _)]at e;cases e
  exact .inl ⟨B (vT _),p σ H ⟨N,s⟩⟩
def Ml (M:Lo K tg t)(q:nH K (Fp f tg g) E σ H):Qf (tDI K f) t (nH K g) E σ H:=by
 refine cX λG k=>?_;obtain⟨B0,H0,ρ,r,⟨N,s⟩,e,p⟩:=q;refine eX e λds O e=>?_;apply k;refine⟨di N (own σ ρ),kZ ρ,ds,bw.trans s.ext.nh,s.repH,O,λJ b N1 a J1=>?_⟩;obtain⟨s1,c⟩:=s.growH a;exact xX M s1 c J1 e p
def Q5 (K:Frag)(f:FA):TI:=λσ H R=>∃(B:Hp)(ρ:Env)(ds:LD),aH B H/\eA K B σ ρ/\f ρ=some ds/\∀(J:It)(H' N:Hp),Ext B N H H'->(∀M,nO K J M ds)->R J H'
@[simp] def pX (f:FA)(tg:FG)(g:FS):FS:=λρ=>(f ρ).bind λds=>fH tg g ds ρ
def HF (M:Lo K tg t)(q:nH K (pX f tg g) E σ H):Qf (Q5 K f) t (nH K g) E σ H:=by
 refine cX λG k=>?_;obtain⟨B0,H0,ρ,r,⟨N,s⟩,e,p⟩:=q;refine eX e λds O e=>?_;apply k;refine⟨N,ρ,ds,s.ext.nh,s.rep,O,λJ b N1 a J1=>?_⟩;exact xX M (s.grow a) (aH.refl _) (J1 _) e p
end DL
namespace DL
open PySem PySem.Spec PyProof.Rows L2
abbrev JE (X:Cx)(e:Expr)(f:FE):Prop:=PE X e (tD X.K f)
abbrev JT (X:Cx)(e:Expr)(f:FT):Prop:=PT X e (Ci X.K f)
abbrev JW (X:Cx)(e:Expr)(f:FT):Prop:=PW X e (Ci X.K f)
abbrev JA (X:Cx)(es:QD)(f:FA):Prop:=PA X es (Ti X.K f)
abbrev JS (X:Cx)(st:Stmt)(g:FS):Prop:=PS X st (nH X.K g)
abbrev xY (X:Cx)(st:List Stmt)(g:FS):Prop:=tj X st (nH X.K g)
abbrev JI (X:Cx)(tg M:Expr)(f:FA):Prop:=PI X tg M (tDI X.K f)
def Q6 (M:Model)(A:Around)(a:QD)(b:Expr)(env:PySem.Env)(d:Value)(E:QV)(P:Shared->Prop):Shared->Prop:=
 wpAny M A (forIn a true λc r=>if r=true then do let ok <-isTrue c env (eval c env);pure (ForInStep.yield ok)else pure (ForInStep.yield r))
  (λok O=>if ok=true then wpAny M A (eval b env) (λx=>wpAny M A (call (.builtin "list.append") [d,x]) (λ_=>P) E) E O else P O) E
def wc {E:QV}(j:∀x s,¬E x s)(I:Nat->Shared->Prop)
  (k:∀n s,I n s->wpAny (model prog w) A (pyNext it) (λr M=>match r with
   |none=>R (.ok .next) M
   |some v=>wpAny (model prog w) A (letOwnedTupleGo Ld it v) (λ_=>wpAny (model prog w) A (assign Ld env v) (λ_=>Q6 (model prog w) A pJ sw env BU E λs=>∃m,m<n/\I m s) E) E M) E s)
  (n:Nat) (h:I n s):codeAny (model prog w) A (.compLoop (.ListComp sw [⟨Ld,dH,pJ,0⟩] scope pos) 0 it BU env) R s:=by
 refine codeAny_loop rr I (λn s l=>?_) n h;refine wpAny_noted (wpAny_mono (E:=E) ?_ (λ_ _ q=>q) λ_ _ z=>(j _ _ z).elim);rw[compTurn_list];refine wX (wpAny_standAt (wX (bD (k n s l) λr M O=>?_)));cases r with
 |none=>exact wY O
 |some v=>
  refine wX (bD O λ_ M O=>wX (bD O λ_ e b=>wX (bD b λok f a=>?_)));cases ok with
  |false=>exact wY ⟨rr,a⟩
  |true=>exact wX (wX (bD a λx g c=>wX (bD c λ_ i d=>wY (wY ⟨rr,d⟩))))
theorem Ext.upd (x:Ext B N H H')(h:H a=none)(M:N a=none):Ext B N H (upd H' a o):=
 ⟨λb u e=>by rw[a6 (λz=>by subst z;rw[h]at e;cases e)];exact x.hh _ _ e,x.bn,λb u e=>by rw[a6 (λz=>by subst z;rw[M]at e;cases e)];exact x.nh _ _ e,x.new⟩
noncomputable abbrev hJ (X:Cx)(N':LS)(scope:Scope)(cl:List (Str×Addr))(C:Addr)(M:Shared)(O:Hp)(fp:List Addr):Cx:=
 { X with N:=N',s₀:=M,H₀:=O,env:=compEnvC scope cl C X.env,outer:=X.stack,stack:=X.stack,ex:=fp,fn:=λ_=>false,pn:=[],xe:=λ_ _=>False }
inductive mh (X:Cx)(N':List Str)(scope:Scope)(cl:List (Str×Addr)):Nat->List Nat->Prop where
 |nil {j:Nat}(h:N'.length=j):mh X N' scope cl j []
 |cons {j i:Nat}{r:List Nat}{x:Str}(h1:N'[j]? = some x) (h2:X.N[i]? = some x) (h3:X.env.kindOf x=some .cell\/X.env.kindOf x=some .free)
   (h4:(relabel scope X.env).names.lookup x=some .cell\/(relabel scope X.env).names.lookup x=some .free) (h5:cl.lookup x=X.env.cells.lookup x) (t:mh X N' scope cl (j+1) r):mh X N' scope cl j (i::r)
theorem mh.len:∀ {j:Nat}{cap:LN},mh X N' scope cl j cap->N'.length=j+cap.length
 |_,_,.nil h=>by rw[h];rfl
 |j,i::r,.cons _ _ _ _ _ t=>by rw[t.len,vE];lia
theorem mh.get:∀ {j:Nat}{cap:LN}{k i:Nat},mh X N' scope cl j cap->cap[k]? = some i->∃x,N'[j+k]? = some x/\X.N[i]? = some x/\(X.env.kindOf x=some .cell\/X.env.kindOf x=some .free) /\
  ((relabel scope X.env).names.lookup x=some .cell\/(relabel scope X.env).names.lookup x=some .free)/\cl.lookup x=X.env.cells.lookup x
 |_,_,_,_,.nil _,e=>by simp at e
 |j,_,0,_,.cons h1 h2 h3 h4 h5 _,e=>by simp at e;subst e;exact⟨_,h1,h2,h3,h4,h5⟩
 |j,_,k+1,i,.cons _ _ _ _ _ t,e=>by
  obtain⟨x,q,r⟩:=t.get (by simpa using e);exact⟨x,N9,r⟩
structure CompSc (X:Cx)(scope:Scope)(cl:List (Str×Addr)):Prop where
 clos:closureFor scope X.env=pure cl
 nocell:∀y∈scope.names,y.2≠.cell
 kind:scope.kind=.function
 names:∀y∈scope.names,y.2=.local->scope.names.lookup y.1=some .local
 sub:∀x c,cl.lookup x=some c->X.env.cells.lookup x=some c
 has:∀x,((relabel scope X.env).names.lookup x=some .cell\/(relabel scope X.env).names.lookup x=some .free)->∃c,cl.lookup x=some c
noncomputable def dm:List (Str×NameKind)->List (Str×Addr)->List (Str×Addr)->List (Str×Addr)
 |[],_,cs=>cs
 | (n,k)::r,cells,cs=>dm r cells (if k == .free then (match cells.lookup n with|some c=>(n,c)::cs|none=>cs)else cs)
def tH:∀(names:List (Str×NameKind))(cs:List (Str×Addr)),(∀y∈names,y.2=.free->(env.cells.lookup y.1).isSome=true) ->
    (do let mut cs:=cs
        for (name,kind)in names do
          if kind == .free then cs:=(name,<-cellOf env name)::cs
        return cs:Sem (List (Str×Addr)))=pure (dm names env.cells cs):=by
  intro names;induction names with
  |nil=>intro cs _;rfl
  |cons y r M=>
    intro cs h;grind[dm,cellOf]
theorem mw:∀(names:List (Str×NameKind))(cs:List (Str×Addr)),(∀y d,cs.lookup y=some d->cells.lookup y=some d)->(dm names cells cs).lookup x=some c->cells.lookup x=some c
 |[],cs,h,e=>h x c e
 | (n,k)::r,cs,h,e=>by
  refine mw r _ (λy d q=>?_) e;split at q
  .split at q
   .rename_i O M;rw[lookup_cons]at q;split at q
    .rename_i hy;cases q
     rw[eq_of_beq hy];exact M
    .exact h y d q
   .exact h y d q
  .exact h y d q
theorem tI:∀(names:List (Str×NameKind))(cs:List (Str×Addr)),(cs.lookup x).isSome=true->((dm names cells cs).lookup x).isSome=true
 |[],cs,h=>h
 | (n,k)::r,cs,h=>by
  refine tI r _ ?_;split
  .split
   .rw[lookup_cons];split
    .rfl
    .exact h
   .exact h
  .exact h
theorem mz:∀(names:List (Str×NameKind))(cs:List (Str×Addr)),(x,NameKind.free)∈names->(cells.lookup x).isSome=true->((dm names cells cs).lookup x).isSome=true
 | (n,k)::r,cs,hm,hc=>by
  rcases vP hm with e|e
  .cases e
   refine tI r _ ?_;grind
  .exact mz r _ e hc
theorem fU {α:Type}{x:Str}{k:α}:∀ {l:List (Str×α)},l.lookup x=some k->(x,k)∈l
 | (n,j)::r,h=>by
  rw[lookup_cons]at h;split at h
  .simp_all
  .exact mZ _ (fU h)
def Q7 {X:Cx}{scope:Scope}(h1:∀y∈scope.names,y.2≠.cell)(h2:scope.kind=.function)(h3:∀y∈scope.names,y.2=.local->scope.names.lookup y.1=some .local)(M:(scope.names.all λy=>!(y.2 == NameKind.free) || (X.env.cells.lookup y.1).isSome)=true):
  CompSc X scope (dm scope.names X.env.cells []):=by
 have h4:∀y∈scope.names,y.2=.free->(X.env.cells.lookup y.1).isSome=true:=λy hy e=>by
  grind
 have frees:∀x,((relabel scope X.env).names.lookup x=some .cell\/(relabel scope X.env).names.lookup x=some .free)->(x,NameKind.free)∈scope.names:=λx h=>by
  have:∃k,(x,k)∈(relabel scope X.env).names/\(k=.cell\/k=.free):=by
   grind[fU]
  grind[relabel]
 exact⟨tH _ [] h4,h1,h2,h3,λx c e=>mw _ [] (λy d q=>by cases q) e,λx h=>by
  have:=mz _ [] (frees x h) (h4 _ (frees x h) rr);exact uU this⟩
def p4 {scope:Scope}{cells:List (Str×Addr)}{x:Str}(h:(x,NameKind.free)∈scope.names)(hc:(cells.lookup x).isSome=true):(dm scope.names cells []).lookup x=cells.lookup x:=by
 obtain⟨c,e⟩:=uU (mz _ [] h hc);grind[mw]
noncomputable def xZ (nT:Nat)(cap:LN)(σ:St):St:=List.replicate nT none++cap.map λi=>(σ[i]?).join
noncomputable def cj (nT:Nat)(cap:LN)(ρ:Env):Env:=List.replicate nT none++cap.map λi=>match ρ[i]? with|some (some (d,_))=>some (d,false)|_=>none
def we {α:Type}{nT:Nat}{cap:LN}{f:Nat->Option α}{j:Nat}{v:α}(h:(List.replicate nT none++cap.map f)[j]? = some (some v)):∃k i,j=nT+k/\cap[k]? = some i/\f i=some v:=by
 by_cases hj:j<nT
 .rw[getElem?_append_left (by simpa using hj),List.getElem?_replicate,if_pos hj]at h;cases h
 .rw[getElem?_append_right (by simpa using Nat.not_lt.mp hj),length_replicate,vA]at h;refine eZ h λi h1 h2=>?_;exact⟨j - nT,i,N9,h1,h2⟩
def Mm {α:Type}{nT:Nat}{cap:LN}{f:Nat->Option α}{k i:Nat}{v:α}(h1:cap[k]? = some i)(h2:f i=some v):(List.replicate nT none++cap.map f)[nT+k]? = some (some v):=by
 rw[getElem?_append_right X9,length_replicate,vA,Nat.add_sub_cancel_left,h1];simp[h2]
def eA.caps {K:Frag}{B:Hp}{σ:St}{ρ:Env}{nT:Nat}{cap:LN}(h:eA K B σ ρ):eA K B (xZ nT cap σ) (cj nT cap ρ):=⟨h.tb,λj d b q=>by
 obtain⟨k,i,rfl,h1,h2⟩:=we q;split at h2
 .rename_i d' b' e;cases h2
  obtain⟨v,g1,M⟩:=h.at' i _ _ e;exact⟨v,Mm h1 (by rw[g1];rfl),M⟩
 simp_all⟩
noncomputable def fB (tg:FG)(c:FT)(fe:FE)(ρ:Env):LD->Option LD
 |[]=>some []
 |d::r=>(tg d ρ).bind λM=>(c M).bind λb=>if b=true then (fe M).bind λx=>(fB tg c fe ρ r).map (x.1 :: ·)else fB tg c fe ρ r
@[simp] def Tj (tg:FG)(c:FT)(fe:FE)(ρ:Env):fB tg c fe ρ []=some []:=by rw[fB]
@[simp] theorem AN (tg:FG)(c:FT)(fe:FE)(ρ:Env)(d:D)(r:LD):fB tg c fe ρ (d::r)=(tg d ρ).bind λM=>(c M).bind λb=>if b=true then (fe M).bind λx=>(fB tg c fe ρ r).map (x.1 :: ·)else fB tg c fe ρ r:=by rw[fB]
@[simp] def j7 (fi:FA)(nT:Nat)(cap:LN)(tg:FG)(c:FT)(fe:FE):FE:=λρ=>(fi ρ).bind λitems=>if items.length<=sizeLine then (fB tg c fe (cj nT cap ρ) items).map λds=>(.lst ds,true)else none
def Mn (K:Frag)(n:Nat)(tg:FG)(g:TG):Prop:=∀(B H:Hp)(σ:St)(ρ O:Env)(v:V)(d:D)(Q:St->Hp->Prop),(∀i,i<n->ρ[i]? = some none)->eA K B σ ρ->aH B H->Is K B v d->tg d ρ=some O ->
 ρ.length=σ.length->(∀M,eA K B M O->(∀a,eA K a σ ρ->eA K a M ρ)->ρ.length=M.length->Q M H)->g v σ H Q
def pY {K:Frag}{n i:Nat}(hi:i<n):Mn K n (fz i) (i7 i):=by
 intro B H σ ρ a v d Q cl rep s h e hl k;cases e
 have O:i<σ.length:=by
  grind
 refine k _ ⟨rep.tb,λj e b q=>?_⟩ ?_ (by simpa using hl)
 .rcases bC q with⟨rfl,p⟩|⟨ne,p⟩
  .simp_all
  .obtain⟨w,h1,h2⟩:=rep.at' j e b p;simp_all
 .intro c M;refine⟨M.tb,λj e b q=>?_⟩;obtain⟨w,h1,h2⟩:=M.at' j e b q;have ne:i≠j:=λz=>by grind
  exact⟨w,by simp_all,h2⟩
def JC (X:Cx)(M:QD)(c:FT):Prop:=∀(af:AO)(s:Shared)(σ:St)(H:Hp)(Q:Bool->Hp->Prop),Inv X af σ H s->Ci X.K c σ H Q ->
 wq X (forIn M true λc r=>if r=true then do let ok <-isTrue c X.env (eval c X.env);pure (ForInStep.yield ok)else pure (ForInStep.yield r)) (TP X af σ Q) X.xe s
@[simp] def ya:FT:=λ_=>some true
def Q8:JC X [] ya:=by
 intro af s σ H Q I h;obtain⟨B,ρ,c,M,rep,e,q⟩:=h;cases e
 exact wpAny_tests_nil ⟨H,I,q H (.refl H)⟩
def Q9 (h:JT X e f):JC X [e] f:=λaf s σ H Q I q=>wpAny_tests_one (h _ s σ H Q I q)
inductive CI (Y:Cx)(tn:Nat->Heap->Prop)(fp:List Addr)(N1 H2:Hp)(κ:Env)(a:Addr)(l:List D->Option (List D))(items ds:List D)(s:Shared):Nat->Prop
 |mk (i:Nat) (N:Hp) (vs:List V) (es r:List D) (σ:St) (H:Hp) (I:Inv Y [] σ H s) (ti:tn i s.heap) (hn:∀b∈fp,H b=none) (hi:i<=items.length) (rp:eA Y.K N1 σ κ) (hl:κ.length=σ.length)
   (x:Ext N1 N H2 H) (n0:N a=none) (h0:H a=some (.lst vs)) (vl:vs.length<=i) (iv:IsL Y.K N vs es) (er:l (items.drop i)=some r) (ed:es++r=ds):CI Y tn fp N1 H2 κ a l items ds s (items.length - i)
def Ext.both (x:Ext N1 N H2 H)(y:Ext N1 N' H H'):Ext N (join N N') H H'/\aH N' (join N N'):=by
 refine⟨⟨y.hh,dM,λa o e=>?_,λa o e=>?_⟩,λa o e=>?_⟩
 .cases z:N a with
  |some u'=>rw[dM _ _ z]at e;cases e;exact y.hh _ _ (x.nh _ _ z)
  |none=>rw[cR z]at e;exact y.nh _ _ e
 .cases z:N a with
  |some u'=>rw[dM _ _ z]at e;simp_all
  |none=>
   rw[cR z]at e;exact(y.new a o e).elim (λM=>by rw[x.bn _ _ M]at z;cases z) .inr
 .exact(y.new a o e).elim (λz=>dM _ _ (x.bn _ _ z)) λz=>by rw[cR (x.nh.free z)];exact e
def Ext.off (x:Ext B N H H')(h:B a=none)(h':H a=some o):N a=none:=by
 cases z:N a with
 |none=>rfl
 |some u=>
  rcases x.new _ _ z with z|z
  .rw[h]at z;cases z
  simp_all
def Fs {Y:Cx}(EM:Y.calm=true)(hE:∀x s,¬Y.xe x s)(hg:PG Y tg g)(S6:Mn Y.K nT sr g)(hc:JC Y pJ fc)(he:JE Y sw fe)(T:Turn Y.prog Y.w Y.K tg J fp it tn)(X7:∀i,i<nT->κ[i]? = some none)
  (J1:nO Y.K J N1 items) (hsz:items.length<=sizeLine) (hD:H2 a=none) (t:∀H',(∀b∈fp,H' b=none)->∀b∈fp,lw Y [] H' b)
  (hR:∀G O H' N vs,Inv Y [] O H' G->Ext N1 N H2 H'->N a=none->H' a=some (.lst vs)->IsL Y.K N vs ds->R (.ok .next) G) (h:CI Y tn fp N1 H2 κ a (fB sr fc fe κ) items ds s items.length):
  codeAny (model Y.prog Y.w) Y.A (.compLoop (.ListComp sw [⟨tg,dH,pJ,0⟩] scope pos) 0 (.ref it) (.ref a) Y.env) R s:=by
 refine wc hE (λn s=>CI Y tn fp N1 H2 κ a (fB sr fc fe κ) items ds s n) (λn s' h=>?_) _ h;refine cX λp q=>?_;obtain⟨i,N,vs,es,r,O,H',I',ti,hn,hi,rp,iQ,x,H,Yz,EN,X8,er,Y0⟩:=h;apply q;clear q;have sH:aH N1 H':=x.bn.trans x.nh;by_cases ju:i<items.length
 .obtain⟨go,yl⟩:=(J1 i H' sH).1 items[i] (by simp[ju]);refine bD (T.item Y rr rr rr EM i [] s' O H' Y.xe I' (t _ hn) ti go) λq G ⟨u,eu,hq⟩=>?_;subst eu;refine bD hq λ_ s5 ⟨xv,I,I5,rx,y5,t5,ZZ⟩=>?_;obtain⟨j,x5,i5⟩:=yl xv I y5;obtain⟨x6,c5⟩:=x.both x5;have L:(join N j) a=none:=x6.off H Yz;have Y1:aH (join N j) I:=x6.nh;rw[List.drop_eq_getElem_cons ju]at er;unfold fB at er;refine eX er λk e1 er=>?_;refine eX er λb e2 er=>?_;have dJ:∀(P:Shared)(f:St)(l Q:Hp)(S:LV)(Y2 r9:LD),Inv Y (pM fp s5.heap) f l P->eA Y.K N1 f κ->κ.length=f.length->Ext N1 Q H2 l->Q a=none->l a=some (.lst S) ->
    S.length<=i+1->IsL Y.K Q S Y2->fB sr fc fe κ (items.drop (i+1))=some r9->Y2++r9=ds->∃m,m<items.length - i/\CI Y tn fp N1 H2 κ a (fB sr fc fe κ) items ds P m:=λP f l Q S Y2 r9 z rp9 l9 x9 n9 h9 v9 i9 er9 ed9=>
   ⟨_,N9,i+1,Q,S,Y2,r9,f,l,z.pins_of λp hp=>by simp at hp,T.keep _ _ _ t5 λb hb o e=>(z.pin (b,o) (mY _ (iR hb e))).1,λb hb=>by
    obtain⟨o,e,d⟩:=T.obj _ _ t5 b hb;exact(z.pin (b,o) (mY _ (iR hb e))).2.1,ju,rp9,l9,x9,n9,h9,v9,i9,er9,ed9⟩
  refine bD (hg (pM fp s5.heap) s5 O I xv u (λM U=>U=I/\eA Y.K (join N j) M k/\eA Y.K N1 M κ/\κ.length=M.length) (I5.pinned (t _ ZZ) (T.obj _ _ t5)) rx
   (S6 (join N j) I O κ k xv items[i] _ X7 (rp.mono (x.bn.trans dM)) Y1 (i5.mono c5) e1 iQ λσ1 r1 r2 l1=>⟨rr,r1,r2 N1 rp,l1⟩)) λ_ s6 ⟨M,U,I6,eH,V,W,l6⟩=>?_
  subst eH;have B:U a=some (.lst vs):=x5.hh _ _ Yz;refine bD (hc _ s6 M U (λc C=>c=b/\aH U C) I6 ⟨join N j,k,b,Y1,V,e2,λC D=>⟨rr,D⟩⟩) λok s7 ⟨C,I7,eb,D⟩=>?_;subst eb;have x7:Ext N1 (join N j) H2 C:=(x.trans x6).trans (.grow Y1 D);cases ok with
  |false=>
   exact dJ s7 M C (join N j) vs es r I7 W l6 x7 L (D _ _ B) (le_succ_of_le EN) (X8.mono dM) er Y0
  |true=>
   rw[if_pos rr]at er |-;refine eX er λy e3 er=>?_;refine eZ er λr' e4 er=>?_;subst er;refine bD (he _ s7 M C (λv X=>∃E,Ext (join N j) E C X/\Is Y.K E v y.1) I7 ⟨join N j,k,y.1,y.2,Y1.trans D,V,e3,λv X E F i8 _=>⟨E,F,i8⟩⟩) λw8 s8 ⟨v8,X,I8,r8,E,F,i8⟩=>?_;refine bD (t8 _ s8 M X (.ref a) [v8] (.ref a) [w8] (λ_ l=>l=upd X a (.lst (vs++[v8]))) I8 rr (.cons r8 .nil) ⟨_,vs,v8,rr,rr,F.hh _ _ (D _ _ B),N9,rr⟩) λ_ P ⟨_,l,z,_,e9⟩=>?_;subst e9;have Z:=F.off L (D _ _ B);exact dJ P M _ E (vs++[v8]) (es++[y.1]) r' z W l6 ((x7.trans F).upd hD Z) Z au (by simp_all) ((X8.mono (dM.trans F.bn)).append (.cons i8 .nil)) e4 (by rw[append_assoc];exact Y0)
 .obtain rfl:i=items.length:=N9
  rw[List.drop_eq_nil_of_le (vT _)]at er;cases er
  rw[uQ]at Y0;subst Y0;refine bD (T.done Y rr rr rr EM items.length [] s' O H' Y.xe I' (t _ hn) ti ((J1 _ H' sH).2 (vT _))) λq G ⟨hq,z⟩=>?_;subst hq;exact hR G O H' N vs z x H Yz X8
def pZ {X:Cx}(EM:X.calm=true){tg dH W:Expr}{Z:QD}{scope:Scope}{L:Pos}{cl:List (Str×Addr)}{N':LS}{nT:Nat}{cap:LN}{sr:FG}{g:TG}{fc:FT}{fe:FE}
  (S:CompSc X scope cl) (cp:mh X N' scope cl nT cap)
  (hg:∀C s H fp,PG (hJ X N' scope cl C s H fp) tg g) (S6:Mn X.K nT sr g) (hc:∀C s H fp,JC (hJ X N' scope cl C s H fp) Z fc) (he:∀C s H fp,JE (hJ X N' scope cl C s H fp) W fe)
  {af:AO}{σ:St}{H2:Hp}{s2:Shared}{it:Addr}{fp:List Addr}{tn:Nat->Heap->Prop}{J:It}{N1:Hp}{ρ:Env}{items ds:LD}{E:QV}
  (n:Inv X af σ H2 s2) (T:Turn X.prog X.w X.K tg J fp it tn) (O2:tn 0 s2.heap) (f2:∀b∈fp,lw X af H2 b)
  (rep:eA X.K N1 σ ρ) (sN:aH N1 H2) (J1:nO X.K J N1 items) (hsz:items.length<=sizeLine) (ec:fB sr fc fe (cj nT cap ρ) items=some ds) {RR:Value->Addr->Result->Shared->Prop}
  (hRR:∀(Dd C:Addr)(s':Shared)(H' N:Hp)(vs:LV)(m:SV),H2 Dd=none->Inv X af σ H' s'->s'.heap.Ns C m->lw X af H' C->Ext N1 N H2 H'->N Dd=some (.lst vs)->IsL X.K N vs ds->RR (.ref Dd) C (.ok .next) s'):
  wq X (newList []) (λBU f=>wq X (newFunctionEnv scope X.env.globals cl [] X.env.qual none .none (some X.env)) (λXB P=>
   codeAny (model X.prog X.w) X.A (.compStart (.ListComp W [⟨tg,dH,Z,0⟩] scope L) 0 (.ref it) BU { XB with scope:=relabel scope X.env }) (RR BU XB.locals) P) E f) E s2:=by
 refine wpAny_newObj_type (wpAny_newFunctionEnv S.nocell (by intro y hy;simp at hy) (λt O d=>?_) S.kind);dsimp only at O d |-;have G:H2 s2.z=none:=n.fresh;have B:=n.lnew (t':=s2.toks) (ys:=[]) (its:=[]) .nil (uN _);generalize Q:s2.heap.push _=D at O d B |-;have hC:D.objs.size=s2.z+1:=by rw[<-Q,Heap.size_push]
 have V:∀b o,s2.heap.get? b=some o->D.get? b=some o:=λb o e=>Q ▸ vZ _ e;have M:∀b o,D.get? b=some o->t.get? b=some o:=λb o e=>d.extBut b o (vS (vX e)) (vZ _ e);have Tz:∀b o,D.get? b=some o->b≠D.objs.size:=λb o e=>vS (vX e);have R:∀b∈fp,∃o,s2.heap.get? b=some o:=λb hb=>let ⟨o,e,_⟩:=T.obj 0 s2.heap O2 b hb;⟨o,e⟩;have fpD:∀b∈fp,b≠s2.z:=λb hb=>let ⟨o,e⟩:=R b hb;vS (vX e);have U:∀b∈fp,b≠D.objs.size:=λb hb=>let ⟨o,e⟩:=R b hb;Tz b o (V b o e);have hHC:=B.hok.fresh (vT _);let Y:Cx:=hJ X N' scope cl D.objs.size { s2 with heap:=D } (upd H2 s2.z (.lst [])) fp;have ok:Y.Ok:=by
  refine⟨n.ok.mod,?_,n.ok.glob,n.ok.blt,vT _,λx y c e1 e2=>n.ok.inj x y c (S.sub x c e1) (S.sub y c e2),λx h=>S.has x h,λx c h=>absurd h uX,n.ok.hd,n.ok.frames,.inl rr,λb hb=>⟨U b hb,λx c e=>(f2 b hb).2.2.2.2.1 x c (S.sub x c e)⟩,λb o e=>?_,?_,λb o e hb=>?_,λb hb hz=>?_,B.stack,λb hb=>B.stkFree b hb⟩
  .show(relabel scope X.env).kind=.function;exact S.kind
  .exact B.bs b o e
  .exact vR B.ok.bsz B.sz
  .have h1:=(f2 b hb).2.2.2.1;rcases h1 with z|z
   .exact n.ok.noex b o e z
   .exact absurd (vQ (vX e) (vR n.ok.bsz z)) (Nat.lt_irrefl _)
  .rcases vP (n.stkSub b hz)with z|z
   .exact(f2 b hb).2.1 z
   .exact(f2 b hb).2.2.1 z
 have I4:Inv Y [] (xZ nT cap σ) (upd H2 s2.z (.lst [])) { s2 with heap:=t,toks:=s2.toks+([]:List (Str×Value)).length }:=by
  refine⟨ok,rr,n.bare,Un.kept M,⟨_,O,λj x v e1 e2 e3=>?_⟩,λx c e=>?_,hHC,λx c e=>B.freeC x c (S.sub x c e),λp hp=>absurd (show p∈[]from hp) not_mem_nil,B.hok.kept M,?_⟩
  .obtain⟨k,i,rfl,h1,h2⟩:=we e2;obtain⟨y,g1,g2,g3',g4,g5⟩:=cp.get h1;have XC:N'[nT+k]? = some x:=e1;rw[g1]at XC;cases XC;have h2':σ[i]? = some (some v):=by
    cases q:σ[i]? with
    |none=>rw[q]at h2;cases h2
    |some z=>rw[q]at h2;have:z=some v:=h2;rw[this]
   obtain⟨m,_,hl⟩:=B.loc;obtain⟨u,r,l⟩:=hl i _ v g2 h2' (g3'.elim (λz=>.inr (.inl z)) λz=>.inr (.inr z));refine⟨u,r,?_⟩;rcases l with⟨l,_⟩|⟨_,c,lc,ic⟩
   .simp_all
   .refine .inr ⟨g4,c,by show cl.lookup _=some c;simp_all,?_⟩;obtain⟨o,ho,hd⟩:=ic;exact⟨o,M _ _ ho,hd⟩
  .obtain⟨v,o,ho,hd⟩:=B.cell x c (S.sub x c e);exact⟨v,o,M _ _ ho,hd⟩
  .show(xZ nT cap σ).length=N'.length;unfold xZ;rw[cp.len];simp
 have F:∀f:Shared,f={ s2 with heap:=t,toks:=s2.toks+([]:List (Str×Value)).length }->codeAny (model Y.prog Y.w) Y.A (.compLoop (.ListComp W [⟨tg,dH,Z,0⟩] scope L) 0 (.ref it) (.ref s2.z) Y.env) (RR (.ref s2.z) D.objs.size) f:=by
  rintro f rfl;refine Fs (Y:=Y) EM (λ_ _ z=>z) (hg _ _ _ _) S6 (hc _ _ _ _) (he _ _ _ _) T (λi hi=>?_) J1 hsz G (λH' hn b hb=>⟨hn b hb,U b hb,ok.exfs b hb,.inl hb,λx c e=>(f2 b hb).2.2.2.2.1 x c (S.sub x c e),λp hp=>absurd (show p∈[]from hp) not_mem_nil⟩) (λs4 σ' H' N vs I x hN0 Yz X8=>?_)
   ⟨0,N1,[],[],ds,xZ nT cap σ,_,I4,T.keep _ _ _ O2 λb hb o e=>M _ _ (V _ _ e),λb hb=>?_,uN _,rep.caps,?_,(Ext.refl sN).upd G (sN.free G),sN.free G,au,uN _,.nil,by simpa using ec,rr⟩
  .simp_all[cj,getElem?_append_left]
  .obtain⟨m,hm,_⟩:=I.loc;have k:aH N (upd N s2.z (.lst vs)):=λa o e=>by grind[a6]
   refine hRR s2.z D.objs.size s4 H' (upd N s2.z (.lst vs)) vs m G (n.call' (ch:=fp) I.os ((Un.laid V (vT _) G).trans I.base) I.hok I.bare λb hb=>⟨(f2 b hb).2.2.2.1,(f2 b hb).2.1,(f2 b hb).2.2.2.2.1,(f2 b hb).2.2.2.2.2⟩) hm (n.fpOk (by rw[hC];exact le_succ _) I.free) ⟨x.hh,x.bn.trans k,λa o e=>?_,λa o e=>?_⟩ au (X8.mono k)
   .by_cases z:a=s2.z
    .simp_all[au]
    .rw[a6 z]at e;exact x.nh _ _ e
   .by_cases z:a=s2.z
    .subst z;exact .inr G
    .rw[a6 z]at e;exact x.new _ _ e
  .rw[a6 (fpD b hb)];exact(f2 b hb).1
  .unfold cj xZ;simp
 exact codeAny_compStart_list (F _ rr) (T.self _ 0 _ _ _ (T.keep _ _ _ O2 λb hb o e=>M _ _ (V _ _ e)) (F _ rr))
def Mo (M:X.calm=true)
  (S:CompSc X scope cl) (cp:mh X N' scope cl nT cap) (hi:JI X tg dH fi)
  (i:∀C s H fp,PG (hJ X N' scope cl C s H fp) tg g) (j:Mn X.K nT sr g) (hc:∀C s H fp,JC (hJ X N' scope cl C s H fp) pJ fc) (he:∀C s H fp,JE (hJ X N' scope cl C s H fp) sw fe)
  (hs:∀x,foldedSetIterable dH X.env x=pure x:=by intro _;rfl):
  JE X (.ListComp sw [⟨tg,dH,pJ,0⟩] scope pos) (j7 fi nT cap sr fc fe):=by
 intro af s σ H Q I h;refine cX λG W=>?_;obtain⟨B,ρ,d,b,k,rep,e,q⟩:=h;refine eX e λitems ei e=>?_;apply W;have hsz:=Decidable.byContradiction λz=>by rw[if_neg z]at e;cases e
 rw[if_pos hsz]at e;refine eZ e λds l e=>?_;cases e
 refine wpAny_comprehension_free rr hs S.clos S.kind S.names (bD (hi _ s σ H (λJ H2=>∃N1,Ext B N1 H H2/\nO X.K J N1 _) I ⟨B,ρ,items,k,rep,ei,λJ H2 N1 O a=>⟨N1,O,a⟩⟩) λv s1 h1=>bD h1 λn s2 h2=>?_);refine cX λG W=>?_;obtain⟨it,fp,tn,J,H2,e,p,T,r,f2,N1,O,a⟩:=h2;apply W;subst e;refine pZ M S cp i j hc he p T r f2 (rep.mono O.bn) O.nh a hsz l ?_;intro Dd C s' H' N vs m t u hm fC x f hl;refine⟨m,hm,λh' c=>⟨.ref Dd,H',?_,rr,q _ H' N (O.trans x) (.lst (fF.of f) hl) λ_=>⟨Dd,vs,ds,rr,rr,O.hh.free t,f,hl⟩⟩⟩;obtain⟨w,y,c2,c3,A,D⟩:=fC;exact u.turned (λb o hb e=>(c.2 b hb).trans e) w y c3 A D
def Mp (M:X.calm=true)
  (n:X.N.Nodup) (p:X.N[i]? = some y) (hy:X.env.kindOf y=some .local)
  (t:swapsWith (.ListComp sw [⟨tg,dH,pJ,0⟩] scope pos) (some (.Name y py)) spos.line X.env=pure true)
  (S:CompSc X scope cl) (cp:mh X N' scope cl nT cap) (hi:JI X tg dH fi)
  (u:∀C s H fp,PG (hJ X N' scope cl C s H fp) tg g) (A:Mn X.K nT sr g) (hc:∀C s H fp,JC (hJ X N' scope cl C s H fp) pJ fc) (he:∀C s H fp,JE (hJ X N' scope cl C s H fp) sw fe)
  (hs:∀x,foldedSetIterable dH X.env x=pure x:=by intro _;rfl):
  JS X (.Assign [.Name y py] (.ListComp sw [⟨tg,dH,pJ,0⟩] scope pos) spos) (dN i (j7 fi nT cap sr fc fe)):=by
 intro af s σ H E I h;have h2:=Ck h;refine cX λG v=>?_;obtain⟨B,ρ,d,b,D,rep,e,q⟩:=h2;refine eX e λitems ei e=>?_;apply v;have hsz:=Decidable.byContradiction λz=>by rw[if_neg z]at e;cases e
 rw[if_pos hsz]at e;refine eZ e λds F e=>?_;cases e
 rw[exec_Assign_Name_used _ _ _ _ t];refine wX (wpAny_standAt (wX ?_));refine wX (wpAny_mono (wpAny_comprehension_free rr hs S.clos S.kind S.names
  (bD (hi af s σ H (λJ H2=>∃N1,Ext B N1 H H2/\nO X.K J N1 items) I ⟨B,ρ,items,D,rep,ei,λJ H2 N1 O f=>⟨N1,O,f⟩⟩) λv s1 h1=>bD h1 λG s2 h2=>?_)) (λ_ s' hq=>wY (wY hq)) λ_ _ e=>e)
 refine cX λG v=>?_;obtain⟨it,fp,tn,J,H2,e,L,T,P,f2,N1,O,f⟩:=h2;apply v;subst e;refine pZ M S cp u A hc he L T P f2 (rep.mono O.bn) O.nh f hsz F ?_;intro Dd C s' H' N vs m Q R hm fC x c hl;obtain⟨U,k,c2,c3,l,V⟩:=fC;refine wpAny_assign_Name (sZ R n p (.inl hy) (r:=show aD (.ref Dd) (.ref Dd)from rr) (λW Y ⟨a,Z,ha⟩=>?_) (.inr hy));have nC:C≠a:=by
  rcases ha with z|z
  .rw[z];exact k
  .exact λw=>l y a z w.symm
 refine⟨m,hm.sameBut Z nC,λh' j=>⟨_,H',?_,q _ H' N (O.trans x) (.lst (fF.of c) hl) λ_=>⟨Dd,vs,ds,rr,rr,O.hh.free Q,c,hl⟩⟩⟩;exact Y.turned (t':=W.toks) (λb o hb e=>(j.2 b hb).trans e) U k c3 l V
section
variable {X:Cx}{a b c e:Expr}{pos:Pos}
def PE.to (h:PE X e t)(k:∀σ H Q,t' σ H Q->t σ H Q):PE X e t':=λaf s σ H Q I q=>h _ s σ H Q I (k σ H Q q)
def PT.to (h:PT X e t)(k:∀σ H Q,t' σ H Q->t σ H Q):PT X e t':=λaf s σ H Q I q=>h _ s σ H Q I (k σ H Q q)
def PW.to (h:PW X e t)(k:∀σ H Q,t' σ H Q->t σ H Q):PW X e t':=λM af s σ H Q I q=>h M _ s σ H Q I (k σ H Q q)
def PA.to (h:PA X es t)(k:∀σ H Q,t' σ H Q->t σ H Q):PA X es t':=λpos af s σ H Q I q=>h _ _ s σ H Q I (k σ H Q q)
def PS.to {st:Stmt}{t t':TS}(h:PS X st t)(k:∀E σ H,t' E σ H->t E σ H):PS X st t':=λaf s σ H E I q=>h _ s σ H E I (k E σ H q)
def tj.to {st:List Stmt}{t t':TS}(h:tj X st t)(k:∀E σ H,t' E σ H->t E σ H):tj X st t':=λaf s σ H E I q=>h _ s σ H E I (k E σ H q)
def PI.to (h:PI X tg it t)(k:∀σ H Q,t' σ H Q->t σ H Q):PI X tg it t':=λaf s σ H Q I q=>h _ s σ H Q I (k σ H Q q)
def Ft {K:Frag}{d:D}{v:V}(i:∀B,Is K B v d){σ:St}{H:Hp}{Q:VK}(h:tD K (fC d) σ H Q):tC v σ H Q:=by
 obtain⟨B,ρ,d',b,s,r,e,q⟩:=h;cases e
 exact q.one s (i B)
def QA (i:Nat)(O:X.N[i]? = some x)(hv:Ll X.env.scope x)(hd:(x == ("__debug__" : Str))=false)
  (M:(x == ("__classdict__" : Str))=false):JE X (.Name x pos) (aq i):=PE.to (jz O hv hd M) λ_ _ _ h=>Q3 h
def QB:JE X (.Constant (.int i) j pos) (fC (.int i)):=PE.to PH λ_ _ _ h=>Ft (λ_=>.int i) h
def UE:JE X (.Constant (.bool i) j pos) (fC (.bl i)):=PE.to TM λ_ _ _ h=>Ft (λ_=>.bl i) h
def QC:JE X (.Constant .none j pos) (fC .non):=PE.to PJ λ_ _ _ h=>Ft (λ_=>.non) h
def QE:JE X (.Constant (.str x) j pos) (fC (.str x)):=PE.to PK λ_ _ _ h=>Ft (λ_=>.str x) h
def Mr (M:Gl X x)(hm:X.mg x=some u)(r:aD v u)(i:∀B,Is X.K B v d)(hd:(x == ("__debug__" : Str))=false:=by decide):JE X (.Name x pos) (fC d):=PE.to (p0 M hm r hd) λ_ _ _ h=>Ft i h
def UF (ho:c8 X (binaryOp op) (rD X.K f))(ha:JE X a fa)(hb:JE X b M):JE X (.BinOp a op b pos) (f2 f fa M):=PE.to (Uk ho ha hb) λ_ _ _ h=>Mf h
def UG (ho:Uj X (unaryOp op) (Za X.K f))(ha:JE X a fa):JE X (.UnaryOp op a pos) (f1 f fa):=PE.to (Ul ho ha) λ_ _ _ h=>Zb h
def QF (ho:c8 X (compareOp op) (rD X.K f))(ha:JE X a fa)(hb:JE X b M)(hm:behindInMarks op b=false):JE X (.Compare a [op] [b] pos) (f2 f fa M):=PE.to (LH ho ha hb hm) λ_ _ _ h=>Mf h
def qc {K:Frag}{f:FE}{σ:St}{H:Hp}{Q:Bool->Hp->Prop}(h:Ci K (bJ f) σ H Q):tD K f σ H λx H'=>∃k,x=.bl k/\Q k H':=by
 obtain⟨B,ρ,c,s,r,e,q⟩:=h;unfold bJ at e;split at e
 .rename_i O b' M;cases e
  refine⟨B,ρ,.bl c,b',s,r,M,λv H' N x i _=>?_⟩;cases i
  exact⟨c,rr,q H' x.hh⟩
 simp_all
def QG (ho:c8 X (compareOp op) (rD X.K f))(ha:JE X a fa)(hb:JE X b M)(hm:behindInMarks op b=false):JT X (.Compare a [op] [b] pos) (bJ (f2 f fa M)):=
 PT.to (Cb ho ha hb hm) λ_ _ _ h=>Mf (qc h)
def QH (h:JE X e f)(he:∀M,isTrue e X.env M=(do let v <-M;standAt e.pos;holding [v] (truthy v))):JT X e (bJ f):=PT.to (PN h he) λ_ _ _ q=>qc q
@[simp] noncomputable def j8 (f g:D->D->OB)(fa M O:FE):FE:=λρ=>(fa ρ).bind λx=>(M ρ).bind λy=>match f x.1 y.1 with
 |some (.bl true,_)=>(O ρ).bind λz=>g y.1 z.1
 |some (.bl false,_)=>some (.bl false,false)
 |_=>none
def yc {K:Frag}{f g:D->D->OB}{fa m n:FE}{σ:St}{H:Hp}{Q:VK}(h:tD K (j8 f g fa m n) σ H Q):A9 (rD K f) (rD K g) (tD K fa) (tD K m) (tD K n) σ H Q:=by
 refine cX λG W=>?_;obtain⟨B,ρ,d,b,s,r,e,q⟩:=h;refine eX e λx ex e=>?_;refine eX e λy p e=>?_;apply W;clear W;refine⟨B,ρ,x.1,x.2,s,r,ex,λv E N1 i i1 _=>⟨N1,ρ,y.1,y.2,i.nh,r.mono i.bn,p,λF H2 N2 M i2 _=>?_⟩⟩;split at e
 .rename_i b' j;refine eX e λz t e=>?_;refine⟨N2,x.1,y.1,.bl _,b',M.nh,i1.mono M.bn,i2,j,λu w o O k _=>?_⟩;cases k
  refine⟨true,rr,?_⟩;refine⟨o,ρ,z.1,z.2,O.nh,r.mono (i.bn.trans (M.bn.trans O.bn)),t,λG I A l C _=>⟨A,y.1,z.1,d,b,l.nh,i2.mono (O.bn.trans l.bn),C,e,?_⟩⟩;exact q.into ((i.trans M).trans (O.trans l))
 .rename_i b' j;cases e
  refine⟨N2,x.1,y.1,.bl _,b',M.nh,i1.mono M.bn,i2,j,λu w o O k _=>?_⟩;cases k
  refine⟨false,rr,?_⟩;exact(q.into ((i.trans M).trans O)).one O.nh (.bl _)
 simp_all
def HG (ho:c8 X (compareOp op) (rD X.K f))(M:c8 X (compareOp O) (rD X.K g))(ha:JE X a fa)(hb:JE X b fb)(hc:JE X c fc)
  (hm:lastMarks [op,O] [b,c]=false):JE X (.Compare a [op,O] [b,c] pos) (j8 f g fa fb fc):=PE.to (Hg ho M ha hb hc hm) λ_ _ _ h=>yc h
def HH (ho:c8 X (compareOp op) (rD X.K f))(M:c8 X (compareOp O) (rD X.K g))(ha:JE X a fa)(hb:JE X b fb)(hc:JE X c fc)
  (hm:lastMarks [op,O] [b,c]=false):JT X (.Compare a [op,O] [b,c] pos) (bJ (j8 f g fa fb fc)):=PT.to (Hh ho M ha hb hc hm) λ_ _ _ h=>yc (qc h)
def Ms {K:Frag}{f g:FT}{σ:St}{H:Hp}{Q:Bool->Hp->Prop}(h:Ci K (fQ f g) σ H Q):TQ (Ci K f) (Ci K g) σ H Q:=by
 obtain⟨B,ρ,c,s,r,e,q⟩:=h;unfold fQ at e;cases M:f ρ with
 |none=>rw[M]at e;cases e
 |some k=>
  rw[M]at e;refine⟨B,ρ,k,s,r,M,λO h1=>?_⟩;cases k with
  |true=>exact⟨B,ρ,c,s.trans h1,r,e,λH2 h2=>q H2 (h1.trans h2)⟩
  |false=>simp_all
def QI {K:Frag}{f g:FT}{σ:St}{H:Hp}{Q:Bool->Hp->Prop}(h:Ci K (jw f g) σ H Q):tOr (Ci K f) (Ci K g) σ H Q:=by
 obtain⟨B,ρ,c,s,r,e,q⟩:=h;unfold jw at e;cases M:f ρ with
 |none=>rw[M]at e;cases e
 |some k=>
  rw[M]at e;refine⟨B,ρ,k,s,r,M,λO h1=>?_⟩;cases k with
  |false=>exact⟨B,ρ,c,s.trans h1,r,e,λH2 h2=>q H2 (h1.trans h2)⟩
  |true=>simp_all
def Mt {K:Frag}{f:FT}{σ:St}{H:Hp}{Q:Bool->Hp->Prop}(h:Ci K (lh f) σ H Q):TR (Ci K f) σ H Q:=by
 obtain⟨B,ρ,c,s,r,e,q⟩:=h;refine eZ e λk ek e=>?_;subst e;exact⟨B,ρ,k,s,r,ek,λM h1=>q M h1⟩
variable {aj:QD}
def Mu (ha:JT X a f):JW X (.BoolOp .And [a] pos) f:=L8 ha
def QJ (ha:JT X a f):JW X (.BoolOp .Or [a] pos) f:=PP ha
def QK (ha:JT X a f)(hb:JW X (.BoolOp .And (b::aj) pos) g):JW X (.BoolOp .And (a::b::aj) pos) (fQ f g):=PW.to (PQ ha hb) λ_ _ _ h=>Ms h
def UH (ha:JT X a f)(hb:JW X (.BoolOp .Or (b::aj) pos) g):JW X (.BoolOp .Or (a::b::aj) pos) (jw f g):=PW.to (TU ha hb) λ_ _ _ h=>QI h
def Zc (h:JW X e f):JT X e f:=h.pt
def QL (ha:JT X a f):JT X (.UnaryOp .Not a pos) (lh f):=PT.to (PR ha) λ_ _ _ h=>Mt h
@[simp] noncomputable def HI (f g:FE):FE:=λρ=>match f ρ with|some (.bl true,_)=>g ρ|some (.bl false,_)=>some (.bl false,false)|_=>none
@[simp] noncomputable def UI (f g:FE):FE:=λρ=>match f ρ with|some (.bl true,_)=>some (.bl true,false)|some (.bl false,_)=>g ρ|_=>none
@[simp] noncomputable def HJ (f:FE):FE:=λρ=>match f ρ with|some (.bl c,_)=>some (.bl (!c),false)|_=>none
def QM (ha:JE X a f)(hb:JE X (.BoolOp .And (b::aj) pos) g):JE X (.BoolOp .And (a::b::aj) pos) (HI f g):=PE.to (PX ha hb) λσ H Q h=>by
 obtain⟨B,ρ,d,k,s,r,e,q⟩:=h;unfold HI at e;split at e
 .rename_i b' O;refine⟨B,ρ,_,_,s,r,O,λv i N1 M i1 _=>?_⟩;cases i1
  refine⟨true,rr,?_⟩;exact⟨N1,ρ,d,k,M.nh,r.mono M.bn,e,q.into M⟩
 .rename_i b' O;cases e
  refine⟨B,ρ,_,_,s,r,O,λv i N1 M i1 _=>?_⟩;cases i1
  refine⟨false,rr,?_⟩;exact(q.into M).one M.nh (.bl _)
 simp_all
def UJ (ha:JE X a f)(hb:JE X (.BoolOp .Or (b::aj) pos) g):JE X (.BoolOp .Or (a::b::aj) pos) (UI f g):=PE.to (TX ha hb) λσ H Q h=>by
 obtain⟨B,ρ,d,k,s,r,e,q⟩:=h;unfold UI at e;split at e
 .rename_i b' O;cases e
  refine⟨B,ρ,_,_,s,r,O,λv i N1 M i1 _=>?_⟩;cases i1
  refine⟨true,rr,?_⟩;exact(q.into M).one M.nh (.bl _)
 .rename_i b' O;refine⟨B,ρ,_,_,s,r,O,λv i N1 M i1 _=>?_⟩;cases i1
  refine⟨false,rr,?_⟩;exact⟨N1,ρ,d,k,M.nh,r.mono M.bn,e,q.into M⟩
 simp_all
def QN (h:JE X a f):JE X (.BoolOp op [a] pos) f:=PU h
def QO (ha:JE X a f):JE X (.UnaryOp .Not a pos) (HJ f):=PE.to (PY ha) λσ H Q h=>by
 obtain⟨B,ρ,d,k,s,r,e,q⟩:=h;unfold HJ at e;split at e
 .rename_i c b' O;cases e
  refine⟨B,ρ,_,_,s,r,O,λv g N1 M i1 _=>?_⟩;cases i1
  exact⟨c,rr,(q.into M).one M.nh (.bl _)⟩
 simp_all
variable {es:QD}
def l5:JA X [] ay:=PA.to dL λ_ _ _ h=>Mh h
def eV (ha:JE X e f)(hr:JA X es g)(hs:starEach (e::es) X.env=(false,eval e X.env)::starEach es X.env:=by rfl):JA X (e::es) (ak f g):=PA.to (cC ha hr hs) λ_ _ _ h=>Hy h
@[simp] noncomputable def dn:LD->OB:=λds=>if ds.length<=sizeLine then some (.tup ds,false)else none
@[simp] noncomputable def fD:LD->OB:=λds=>if ds.length<=sizeLine then some (.lst ds,true)else none
def QP {M}(h:JA X es f):JE X (.Tuple es M pos) (fA dn f):=PE.to (AD h) λσ H Q q=>by
 obtain⟨B,ρ,ds,s,r,e,k⟩:=Mg q;refine⟨B,ρ,ds,s,r,e,λvs O N1 M i1=>?_⟩;obtain⟨i,g,d,b,s2,i2,e2,k2⟩:=k vs O N1 M i1;unfold dn at e2;split at e2
 .rename_i hz;cases e2
  refine⟨by rw[i2.length];exact hz,λp hp=>k2 _ _ _ (.laid s2 hp) (.tup (gN.of au) (i2.mono (Ext.laid s2 hp).bn)) X9⟩
 simp_all
def QQ (h:JA X es f):JE X (.List es pos) (fA fD f):=PE.to (Qq h) λσ H Q q=>by
 obtain⟨B,ρ,ds,s,r,e,k⟩:=Mg q;refine⟨B,ρ,ds,s,r,e,λvs O N1 g i1=>?_⟩;obtain⟨i,M,d,b,s2,i2,e2,k2⟩:=k vs O N1 g i1;unfold fD at e2;split at e2
 .rename_i hz;cases e2
  refine⟨by rw[i2.length];exact hz,λp hp=>k2 _ _ _ (.laid s2 hp) (.lst (fF.of au) (i2.mono (Ext.laid s2 hp).bn)) λ_=>⟨p,vs,M,rr,rr,hp,au,i2.mono (Ext.laid s2 hp).bn⟩⟩
 simp_all
end
section
variable {X:Cx}
def iS (h:c8 X f r)(k:∀x y H Q,r' x y H Q->r x y H Q):c8 X f r':=λaf s σ H x y v u Q I M O q=>h _ s σ H x y v u Q I M O (k x y H Q q)
noncomputable def UK (f g:D->D->OB):D->D->OB:=λx y=>match f x y with|some r=>some r|none=>g x y
def qd (h:c8 X s (rD X.K f))(h':c8 X s (rD X.K g)):c8 X s (rD X.K (UK f g)):=by
 intro af st σ H x y v u Q I M O q;refine eS q λB dx a d b c i j e q=>?_;unfold UK at e;split at e
 .rename_i r k;cases e
  exact h _ st σ H x y v u Q I M O ⟨B,dx,a,_,_,c,i,j,k,q⟩
 .exact h' _ st σ H x y v u Q I M O ⟨B,dx,a,_,_,c,i,j,e,q⟩
@[simp] noncomputable def AQ (C:Int->Int->Bool)(g:Int->Int->D):D->D->OB
 |.int i,.int j=>if C i j=true then some (g i j,false)else none
 |_,_=>none
def m4 (h:c8 X s (rI C g))(M:∀i j,C' i j=true->C i j)(O:∀i j B,Is X.K B (g i j) (g' i j)):c8 X s (rD X.K (AQ C' g')):=by
 refine iS h λx y H Q q=>?_;refine eS q λB dx k d b a c f e q=>?_;cases c<;>try (cases e)
 cases f<;>try (cases e)
 rename_i i j;simp only[AQ]at e;split at e
 .rename_i hc;cases e
  exact⟨i,j,rr,rr,M i j hc,q.one a (O i j B)⟩
 simp_all
def fW (h:c8 X s (Ln g))(M:∀i j B,Is X.K B (g i j) (g' i j)):c8 X s (rD X.K (AQ (λ_ _=>true) g')):=by
 refine iS h λx y H Q q=>?_;refine eS q λB dx f d b O a c e q=>?_;cases a<;>try (cases e)
 cases c<;>try (cases e;done)
 rename_i i j;cases e
 exact⟨i,j,rr,rr,q.one O (M i j B)⟩
abbrev Zd:D->D->OB:=AQ (λ_ _=>true) λi j=>.int (i+j)
abbrev QR:D->D->OB:=AQ (λ_ _=>true) λi j=>.int (i - j)
abbrev UL:D->D->OB:=AQ (λi j=>decide ((-18446744073709551616<i/\i<18446744073709551616)\/(-18446744073709551616<j/\j<18446744073709551616))) λi j=>.int (i*j)
abbrev f6:D->D->OB:=AQ (λ_ j=>decide (0<j/\j<1073741824)) λi j=>.int (i / j)
abbrev jx:D->D->OB:=AQ (λ_ j=>decide (0<j)) λi j=>.int (i % j)
abbrev Ze:D->D->OB:=AQ (λi j=>decide (0<=j/\j<=1000000/\i.natAbs<18446744073709551616)) λi j=>.int (i ^ j.toNat)
abbrev Zf:D->D->OB:=AQ (λ_ _=>true) λi j=>.int (Builtin.bitAnd i j)
abbrev iLt:D->D->OB:=AQ (λ_ _=>true) λi j=>.bl (decide (i<j))
abbrev iLe:D->D->OB:=AQ (λ_ _=>true) λi j=>.bl (decide (i<=j))
abbrev Tk:D->D->OB:=AQ (λ_ _=>true) λi j=>.bl (decide (j<i))
abbrev iGe:D->D->OB:=AQ (λ_ _=>true) λi j=>.bl (decide (j<=i))
def UM:c8 X (binaryOp .Add) (rD X.K Zd):=fW Qi λ_ _ _=>.int _
def UN:c8 X (binaryOp .Sub) (rD X.K QR):=fW Qj λ_ _ _=>.int _
def UO:c8 X (binaryOp .Mult) (rD X.K UL):=m4 Qk (λi j h=>by simp_all[LF]) λ_ _ _=>.int _
def QS:c8 X (binaryOp .FloorDiv) (rD X.K f6):=m4 LG (λi j h=>by simp_all[Uo]) λ_ _ _=>.int _
def UP:c8 X (binaryOp .Mod) (rD X.K jx):=m4 Ql (λ_ _ h=>xG h) λ_ _ _=>.int _
def UQ:c8 X (binaryOp .Pow) (rD X.K Ze):=m4 Qm (λi j h=>by simp_all[Ur]) λ_ _ _=>.int _
def UR:c8 X (binaryOp .BitAnd) (rD X.K Zf):=fW Qn λ_ _ _=>.int _
def Zg:c8 X (compareOp .Lt) (rD X.K iLt):=fW Us λ_ _ _=>.bl _
def Zh:c8 X (compareOp .LtE) (rD X.K iLe):=fW Ut λ_ _ _=>.bl _
def Zi:c8 X (compareOp .Gt) (rD X.K Tk):=fW Uu λ_ _ _=>.bl _
def Zj:c8 X (compareOp .GtE) (rD X.K iGe):=fW Uv λ_ _ _=>.bl _
@[simp] noncomputable def Zk (C:Str->Str->Bool)(g:Str->Str->D):D->D->OB
 |.str i,.str j=>if C i j=true then some (g i j,false)else none
 |_,_=>none
abbrev Zl:D->D->OB:=Zk (λi j=>decide (i.length+j.length<=sizeLine)) λi j=>.str (i++j)
abbrev sLe:D->D->OB:=Zk (λ_ _=>true) λi j=>.bl (!decide (j.cps.toList<i.cps.toList))
def QT:c8 X (binaryOp .Add) (rD X.K Zl):=by
 refine iS AA λx y H Q q=>?_;refine eS q λB dx c d b M O a e q=>?_;cases O<;>try (cases e)
 cases a<;>try (cases e)
 rename_i i j;simp only[Zk]at e;split at e
 .rename_i hc;cases e
  exact⟨i,j,rr,rr,xG hc,q.one M (.str _)⟩
 simp_all
def US:c8 X (compareOp .LtE) (rD X.K sLe):=by
 intro af s σ H x y v u Q I M O q;refine eS q λB dx g d b a c f e q=>?_;cases c<;>try (cases e)
 cases f<;>try (cases e;done)
 cases e
 obtain⟨t,rfl⟩:=M;obtain⟨t',rfl⟩:=O;exact PySem.P.le_str ⟨.bl _,H,I,rr,q.one a (.bl _)⟩
end
section
variable {X:Cx}{a b c e:Expr}{pos:Pos}{st:Stmt}{aj:List Stmt}
def QU:xY X [] xU:=tj.to L9 λ_ _ _ h=>HA h
def Mv (h1:JS X st g)(h2:xY X aj h):xY X (st::aj) (bN g h):=tj.to (GZ h1 h2) λ_ _ _ q=>Mi q
def QW (h1:JS X st g):xY X [st] g:=LA h1
def UT {c:Expr}{a b:List Stmt}{M:FT}{g h:FS}(hc:JT X c M)(ha:xY X a g)(hb:xY X b h):JS X (.If c a b pos) (GO M g h):=PS.to (Uc hc ha hb) λ_ _ _ q=>Q4 q
def QX (he:JE X e f):JS X (.Return (some e) pos) (Fm f):=PS.to (Ha he) λ_ _ _ q=>Mj q
def Mw (i:Nat)(O:X.N[i]? = some x)(hv:Ll X.env.scope x)(hd:(x == ("__debug__" : Str))=false)
  (M:(x == ("__classdict__" : Str))=false):JS X (.Return (some (.Name x p)) pos) (oF i):=PS.to (Ha (jz O hv hd M)) λ_ _ _ q=>HB q
def QY (M:X.N.Nodup)(he:JE X e f)(hi:X.N[i]? = some x)(hx:Lm X.env.scope x)(hs:swapsWith e (some (.Name x p)) pos.line X.env=pure false)
  (hf:X.fn x=true\/X.env.scope.names.lookup x=some .local):JS X (.Assign [.Name x p] e pos) (dN i f):=PS.to (vn M hi hx he hs hf) λ_ _ _ q=>Ck q
def Mx (M:X.N.Nodup)(he:JE X e f)(hi:X.N[i]? = some x)(hx:Lm X.env.scope x)(hs:swapsWith e (some (.Name x p)) pos.line X.env=pure false)
  (hf:X.fn x=true\/X.env.scope.names.lookup x=some .local):JS X (.Assign [.Name x p] e pos) (Cj i f):=PS.to (vn M hi hx he hs hf) λ_ _ _ q=>HC q
def HK (n:Nat)(hp:PassesOwn (model X.prog X.w) X.A X.env X.xe)(hc:JT X c O)(hb:xY X M g):JS X (.While c M [] pos) (fT O g n):=PS.to (He hp hc hb) λ_ _ _ q=>Fo q
def QZ (hp:PassesOwn (model X.prog X.w) X.A X.env X.xe)(hc:X.calm=true)(hi:JI X tg dH fi)(M:PG X tg t)(O:Lo X.K sr t)(hb:xY X body g)
  (hs:∀x,foldedSetIterable dH X.env x=pure x:=by intro _;rfl):JS X (.For tg dH body [] pos) (Fp fi sr g):=PS.to (Hf hp hc hi M hb hs) λ_ _ _ q=>Ml O q
def My (hp:PassesOwn (model X.prog X.w) X.A X.env X.xe)(hc:X.calm=true)(hi:PI X tg dH (Q5 X.K fi))(M:PG X tg t)(O:Lo X.K sr t)(hb:xY X body g)
  (hs:∀x,foldedSetIterable dH X.env x=pure x:=by intro _;rfl):JS X (.For tg dH body [] pos) (pX fi sr g):=PS.to (Hf hp hc hi M hb hs) λ_ _ _ q=>HF O q
def Ra (he:JE X e f)(d:X.N[i]? = some x)(hv:Ll X.env.scope x)(hd:(x == ("__debug__" : Str))=false)
  (g:(x == ("__classdict__" : Str))=false)
  (M:attributeBase (.Name x p) "append" X.env (eval (.Name x p) X.env)=eval (.Name x p) X.env)
  (h:((backTo bA (starEach [e] X.env)).all (λx=>!x.1) && (backToKw bA (keywordEach [] X.env)).all (λx=>x.1.isSome)
   && decide ([e].length+([]:List Keyword).length+(if([]:List Keyword).isEmpty then 0 else 1)<30))=true)
  (O:(cb.endLine == bA.line)=true) (hs:starEach [e] X.env=[(false,eval e X.env)]) (j:swapsWith (.Call (.Attribute (.Name x p) "append" cb) [e] [] bA) none pos.line X.env=pure false):
  JS X (.Expr (.Call (.Attribute (.Name x p) "append" cb) [e] [] bA) pos) (xW i f):=by
 refine PS.to (BZ (xP plainAttrs_list PySem.F.slot_list_append PySem.F.type_list_append t8 (jz d hv hd g) (cC he dL hs) M h O hs rr) j) λE σ H q=>?_;obtain⟨a,us,h1,h2,k⟩:=Mk q;exact⟨_,h1,.inl ⟨rr,us,fF.of h2⟩,k⟩
end
@[simp] noncomputable def ax (g:FS)(n k:Nat):LD->OB:=λds=>if ds.length=n then
 match g (ds.map (λd=>some (d,false))++List.replicate k none) with
 |some (.rt d b)=>some (d,b)
 |some (.nx _)=>some (.non,false)
 |_=>none
 else none
def Lp (K:Frag)(f:LD->OB):Sp:=λvs H Q _=>∃(B:Hp)(ds:LD)(d:D)(b:Bool),(aH B H/\Tb K B)/\IsL K B vs ds/\f ds=some (d,b)/\Fin K B H d b Q
def ye {K:Frag}{B H:Hp}{vs:LV}{ds:LD}{N:LS}(O:aH B H)(tb:Tb K B)(i:IsL K B vs ds):cP K B H B H (L2.lf N vs) (ds.map (λd=>some (d,false))++List.replicate (N.length - vs.length) none):=by
 have M:∀(j:Nat)(d:D)(b:Bool),(ds.map (λd=>some (d,false))++List.replicate (N.length - vs.length) none:Env)[j]? = some (some (d,b))->b=false/\ds[j]? = some d:=λj d b e=>by
  by_cases hj:j<ds.length
  .rw[getElem?_append_left (by simpa using hj),vA]at e;refine eZ e λd' h1 h2=>?_;cases h2
   exact⟨rr,h1⟩
  .rw[getElem?_append_right (by simpa using Nat.not_lt.mp hj),List.getElem?_replicate]at e;split at e<;>cases e
 have no:∀a,¬own (L2.lf N vs) (ds.map (λd=>some (d,false))++List.replicate (N.length - vs.length) none) a:=λa ⟨j,d,h,_⟩=>by
  obtain⟨z,_⟩:=M j d true h;cases z
 refine⟨O,tb,.refl O,?_,λj d e=>?_,λj d e=>?_,λj k a d e h=>?_⟩
 .unfold L2.lf;rw[uZ,uZ,vI,vI,length_replicate,length_replicate,i.length]
 .obtain⟨_,e1⟩:=M j d false e;obtain⟨v,h1,h2⟩:=i.get e1;refine⟨v,?_,h2.mono λa o e=>by rw[ci (no a)];exact e⟩;unfold L2.lf;have hj:=(vV h1).1;rw[getElem?_append_left (by simpa using hj),vA,h1]<;>rfl
 .obtain⟨z,_⟩:=M j d true e;cases z
 .obtain⟨z,_⟩:=M j d true h;cases z
section
variable {P:Program}{w:World}{K:Frag}{mg:SV}{base:Heap}
def Zm {x qual:Str}{st:Stmt}{f:Addr}{fd:FuncData}{N ps:LS}{k:Nat}{g:FS}(F:S5 K x qual st f fd)(S:FnScope N ps (aE st))
  (hb:∀(dF:Value)(A:Around)(outer:List PySem.Env)(s:Shared)(H:Hp)(E:XK),dr k (A.deeper (envOfC qual (aE st) s.z f dF))->xY (pN A2 P w K mg base N qual (aE st) f dF A outer s H E).nox (bM st) g):
  sk P w K mg base A2 (k+1) f fd ps (Lp K (ax g ps.length (N.length - ps.length))):=by
 have len:∀vs H Q E,Lp K (ax g _ (N.length - ps.length)) vs H Q E->vs.length=ps.length:=λvs H Q E h=>by
  obtain⟨B,ds,d,b,O,i,e,q⟩:=h;unfold ax at e;split at e
  .rename_i hl;rw[i.length];exact hl
  simp_all
 refine F.ok S len λdF A outer s H vs Q E hr h=>⟨_,hb _ A _ s H E hr,?_⟩;have M:=len vs H Q E h;obtain⟨B,ds,d,b,O,i,e,q⟩:=h;unfold ax at e;rw[if_pos (by rw[<-i.length];exact M)]at e;have a:=ye (N:=N) O.1 O.2 i;rw[M]at a;split at e
 .rename_i d' b' c;cases e
  exact⟨B,H,_,_,⟨B,a⟩,c,λv H' N' j l m=>q v H' N' j l m⟩
 .rename_i ρ' c;cases e
  exact⟨B,H,_,_,⟨B,a⟩,c,λn H' ⟨N',s'⟩=>q _ H' N' s'.ext .non X9⟩
 simp_all
structure Fn (P:Program)(w:World)(K:Frag)(mg:Str->Option Value)(base:Heap)(k:Nat)(x:Str)(f:List D->OB):Prop where
 ex:∃(ad:Addr)(fd:FuncData)(ps:List Str),sk P w K mg base A2 k ad fd ps (Lp K f)/\mg x=some (.ref ad)/\PySem.W.keepIn K (.ref ad)=true/\oD K fd ps []
end
def Mz (F:Fn X.prog X.w X.K X.mg X.base k x f)(hr:dr k X.A)(ha:JA X (e::es) fa)(c:Gl X x:=by rfl)
  (M:(x == ("__debug__" : Str))=false:=by decide) (he:starEach (e::es) X.env=(false,eval e X.env)::starEach es X.env:=by rfl) (O:(backTo pos (starEach es X.env)).any (·.1)=false:=by rfl):
  JE X (.Call (.Name x p) (e::es) [] pos) (fA f fa):=by
 obtain⟨ad,fd,ps,g,hm,hk,hb⟩:=F.ex;refine PE.to (LJ g hr c hm hk hb .nil U5 ha M he O) λσ H Q q=>?_;refine cX λG W=>?_;obtain⟨B,ρ,d,b,s,r,e,q⟩:=q;refine eX e λds ex e=>?_;apply W;exact⟨B,ρ,ds,s,r,ex,λvs h N1 a i1=>by
  show Lp _ f _ h Q _;rw[uQ];exact⟨N1,ds,d,b,⟨a.nh,r.tb.mono a.bn⟩,i1,e,q.into a⟩⟩
mutual
noncomputable def cZ:D->D->Bool
 |.non,.non=>true
 |.bl a,.bl b=>a == b
 |.bl a,.int b=>decide ((if a then 1 else 0)=b)
 |.int a,.bl b=>decide (a=(if b then 1 else 0))
 |.int a,.int b=>decide (a=b)
 |.str a,.str b=>decide (a=b)
 |.tup xs,.tup ys=>m5 xs ys
 |.lst xs,.lst ys=>m5 xs ys
 |_,_=>false
@[simp] noncomputable def m5:LD->LD->Bool
 |[],[]=>true
 |x::xs,y::ys=>cZ x y && m5 xs ys
 |_,_=>false
end
@[simp] theorem yf (a b:Str):cZ (.str a) (.str b)=decide (a=b):=rfl
@[simp] def xx0:cZ .non .non=true:=rfl
@[simp] def xx1 (a b:Bool):cZ (.bl a) (.bl b)=(a == b):=rfl
@[simp] def xx2 (a b:Int):cZ (.int a) (.int b)=decide (a=b):=rfl
@[simp] def xx3 (a b:LD):cZ (.tup a) (.tup b)=m5 a b:=rfl
@[simp] def xx4 (a b:LD):cZ (.lst a) (.lst b)=m5 a b:=rfl
@[simp] def xx5 (a:Str)(b:Int):cZ (.str a) (.int b)=false:=rfl
@[simp] def xx6 (a:Int)(b:Str):cZ (.int a) (.str b)=false:=rfl
@[simp] def xx12 (a:LD)(b:Str):cZ (.lst a) (.str b)=false:=rfl
@[simp] noncomputable def aY:Nat->D->Bool
 |_,.non=>true
 |_,.bl _=>true
 |_,.int _=>true
 |_,.str _=>true
 |_,.ty _=>false
 |_,.dk _ _=>false
 |_,.dt _ _=>false
 |0,.tup _=>false
 |0,.lst _=>false
 |n+1,.tup ds=>ds.all (aY n)
 |n+1,.lst ds=>ds.all (aY n)
theorem yg:∀ {xs ys:LD},m5 xs ys=true->xs.length=ys.length
 |[],[],_=>rr
 |x::xs,y::ys,h=>by
  simp [m5,vC]at h;rw[vE,vE,yg h.2]
 |[],_::_,h=>by simp at h
 |_::_,[],h=>by simp at h
def wg (h:xs.length≠ys.length):m5 xs ys=false:=by
 grind[yg]
theorem iT (f:Nat->Bool):∀ {xs ys:LD},xs.length=ys.length->(∀(j:Nat) x y,xs[j]? = some x->ys[j]? = some y->f j=cZ x y)->(List.range xs.length).all f=m5 xs ys
 |[],[],_,_=>by simp
 |x::xs,y::ys,hl,h=>by
  have e:=iT _ (by simpa using hl) λj a b h1 h2=>h (j+1) a b (by simpa using h1) (by simpa using h2);rw[vE,List.range_succ_eq_map,all_cons,all_map,m5,<-h 0 x y rr rr,<-e];rfl
 |[],_::_,hl,_=>by simp at hl
 |_::_,[],hl,_=>by simp at hl
section
variable {X:Cx}{af:AO}{σ:St}{H:Hp}{s:Shared}
def Cm (I:Inv X af σ H s)(h1:gN X.K H a vs)(h2:fF X.K H a ws):False:=by
 refine cX λG g=>?_;obtain⟨its,_,⟨o,e,c,_⟩,_⟩:=I.tuple h1;obtain⟨its',_,⟨o',M,O,b,_⟩,_⟩:=I.list h2;apply g;lia
def Cn (I:Inv X af σ H s)(e:s.heap.get? a=some o)(d:o.data=.seq its n):(∀a9 ob,H a≠some (.dK a9 ob))/\∀a9,H a≠some (.dT a9):=by
 refine⟨λa9 ob h=>?_,λa9 h=>?_⟩
 .refine cX λG g=>?_;obtain⟨_,_,_,_,_,o',es,M,O,_,d',_⟩:=(show bj _ _ H _ a _ from I.hok a _ h);apply g;clear g;simp_all
 .refine cX λG g=>?_;obtain⟨_,_,_,_,o',es,M,O,_,d',_⟩:=(show bj _ _ H _ a _ from I.hok a _ h);apply g;clear g;simp_all
def yh (I:Inv X af σ H s)(h1:gN X.K H a vs):(∀a9 ob,H a≠some (.dK a9 ob))/\∀a9,H a≠some (.dT a9):=by
 obtain⟨its,_,⟨o,e,c,n,d⟩,_⟩:=I.tuple h1;exact Cn I e d
def yi (I:Inv X af σ H s)(h1:fF X.K H a vs):(∀a9 ob,H a≠some (.dK a9 ob))/\∀a9,H a≠some (.dT a9):=by
 refine I.lisE h1 λits _ p _=>?_;obtain⟨o,e,c,n,d⟩:=p.isList;exact Cn I e d
def Co (I:Inv X af σ H s):∀(n:Nat){v:V}{d d':D},Is X.K H v d->Is X.K H v d'->aY n d=true->cZ d d'=true:=by
 have M:∀ {p:D->Bool}(a:∀ {v:V}{d d':D},Is X.K H v d->Is X.K H v d'->p d=true->cZ d d'=true) {vs:LV}{ds O:LD},IsL X.K H vs ds->IsL X.K H vs O->ds.all p=true->m5 ds O=true:=by
  intro p a vs;induction vs with
  |nil=>intro ds O h h' _;cases h;cases h';rfl
  |cons v vs b=>
   intro ds O h h' hp;cases h with
   |cons h1 h2=>
    cases h' with
    |cons h3 h4=>
     rw[all_cons,vC]at hp;rw[m5,a h1 h3 hp.1,b h2 h4 hp.2];rfl
 intro n;induction n with
 |zero=>
  intro v d d' h h' hp;cases h<;>cases h'<;>first|(simp at hp;done)|simp
 |succ n a=>
  intro v d d' h h' hp;cases h with
  |tup h1 h2=>
   cases h' with
   |tup h3 h4=>
    rw[I.tuple_inj h3 h1]at h4;exact M a h2 h4 (by simpa [aY]using hp)
   |lst h3 h4=>exact(Cm I h1 h3).elim
   |dk h3 _ _=>exact((yh I h1).1 _ _ h3).elim
   |dt h3 _ _=>exact((yh I h1).2 _ h3).elim
  |lst h1 h2=>
   cases h' with
   |lst h3 h4=>
    rw[I.list_inj h3 h1]at h4;exact M a h2 h4 (by simpa [aY]using hp)
   |tup h3 h4=>exact(Cm I h3 h1).elim
   |dk h3 _ _=>exact((yi I h1).1 _ _ h3).elim
   |dt h3 _ _=>exact((yi I h1).2 _ h3).elim
  |ty=>simp at hp
  |dk=>simp at hp
  |dt=>simp at hp
  |_=>cases h'<;>simp
def yj {A:Around}{p:D->Bool}(f:∀ {O a:V}{d1 d2:D}{b c:Value},p d1=true->p d2=true->Is X.K H O d1->Is X.K H a d2->aD O b->aD a c->SeqAt.EqAt A s b c (cZ d1 d2))
  {vs ws:LV}{ds es:LD}{its M:LU}(i1:IsL X.K H vs ds) (i2:IsL X.K H ws es) (r1:aL vs its) (e:aL ws M) (g:ds.all p=true) (p2:es.all p=true):
  ∀j (h1:j<its.toArray.size) (h2:j<M.toArray.size),SeqAt.EqAt A s its.toArray[j] M.toArray[j] (cZ (ds.getD j .non) (es.getD j .non)):=by
 intro j h1 h2;rw[vH]at h1 h2;have l1:=r1.length;have l2:=e.length;have h:=i1.length;have k:=i2.length;have hv:j<vs.length:=N9
 have hw:j<ws.length:=N9
 have hd:j<ds.length:=N9
 have he:j<es.length:=N9
 refine cX λG W=>?_;obtain⟨u,e1,l⟩:=r1.get (i:=j) (x:=vs[j]) (by simp );obtain⟨u',e2,q2⟩:=e.get (i:=j) (x:=ws[j]) (by simp );obtain⟨v,m,n⟩:=i1.get (i:=j) (d:=ds[j]) (by simp );obtain⟨w,o,q⟩:=i2.get (i:=j) (d:=es[j]) (by simp );apply W;clear W;grind
def wj {xs ys:LD}(j:Nat)(x y:D)(h1:xs[j]? = some x)(h2:ys[j]? = some y):cZ (xs.getD j .non) (ys.getD j .non)=cZ x y:=by
 simp[h1,h2]
abbrev Zn (A:Around)(s:Shared)(M O:Value)(b:Bool):Prop:=SeqAt.RcAt A s M O b/\SeqAt.EqAt A s M O b/\SeqAt.RcNeAt A s M O (!b)
def Cp {M O:Addr}(rc:SeqAt.RcAt A s (.ref M) (.ref O) b)(a:SeqAt.RcNeAt A s (.ref M) (.ref O) (!b))(h:M=O->b=true):Zn A s (.ref M) (.ref O) b:=by
 grind[SeqAt.EqAt.same,SeqAt.EqAt.of_refs]
def yk (O:aY 0 d1=true)(p2:aY 0 d2=true)(i1:Is X.K H v1 d1)(i2:Is X.K H v2 d2)(r1:aD v1 u1)(M:aD v2 u2):Zn A s u1 u2 (cZ d1 d2):=by
 cases i1 with
 |non=>
  cases r1
  cases i2 with
  |non=>cases M;exact⟨.none_none,.same _,.none_none⟩
  |bl b=>cases M;exact⟨.none_bool _,.none_bool _,.none_bool _⟩
  |int b=>obtain⟨t',rfl⟩:=M;exact⟨.none_int _ _,.none_int _ _,.none_int _ _⟩
  |str b=>obtain⟨t',rfl⟩:=M;exact⟨.none_str _ _,.none_str _ _,.none_str _ _⟩
  |_=>simp at p2
 |bl a=>
  cases r1
  cases i2 with
  |non=>cases M;exact⟨.bool_none _,.bool_none _,.bool_none _⟩
  |bl b=>cases M;exact⟨.bool_bool _ _,.bool_bool _ _,.bool_bool _ _⟩
  |int b=>obtain⟨t',rfl⟩:=M;exact⟨.bool_int _ _ _,.bool_int _ _ _,.bool_int _ _ _⟩
  |str b=>obtain⟨t',rfl⟩:=M;exact⟨.bool_str _ _ _,.bool_str _ _ _,.bool_str _ _ _⟩
  |_=>simp at p2
 |int a=>
  obtain⟨t,rfl⟩:=r1;cases i2 with
  |non=>cases M;exact⟨.int_none _ _,.int_none _ _,.int_none _ _⟩
  |bl b=>cases M;exact⟨.int_bool _ _ _,.int_bool _ _ _,.int_bool _ _ _⟩
  |int b=>obtain⟨t',rfl⟩:=M;exact⟨.int_int _ _ _ _,.int_int _ _ _ _,.int_int _ _ _ _⟩
  |str b=>obtain⟨t',rfl⟩:=M;exact⟨.int_str _ _ _ _,.int_str _ _ _ _,.int_str _ _ _ _⟩
  |_=>simp at p2
 |str a=>
  obtain⟨t,rfl⟩:=r1;cases i2 with
  |non=>cases M;exact⟨.str_none _ _,.str_none _ _,.str_none _ _⟩
  |bl b=>cases M;exact⟨.str_bool _ _ _,.str_bool _ _ _,.str_bool _ _ _⟩
  |int b=>obtain⟨t',rfl⟩:=M;exact⟨.str_int _ _ _ _,.str_int _ _ _ _,.str_int _ _ _ _⟩
  |str b=>obtain⟨t',rfl⟩:=M;exact⟨.str_str _ _ _ _,.str_str _ _ _ _,.str_str _ _ _ _⟩
  |_=>simp at p2
 |_=>simp at O
def OM (I:Inv X af σ H s):∀(n:Nat){A:Around}{f g:V}{d1 d2:D}{h i:Value},A.units+n<cLine->aY n d1=true->aY n d2=true->Is X.K H f d1->Is X.K H g d2->aD f h->aD g i->Zn A s h i (cZ d1 d2):=by
 intro n;induction n with
 |zero=>exact λ_ c p2 i1 i2 r1 b=>yk c p2 i1 i2 r1 b
 |succ n w=>
  intro A f g d1 d2 h i hu c p2 i1 i2 r1 b;have M:A.units<cLine:=N9
  have k:∀ {f g:V}{d1 d2:D}{h i:Value},aY n d1=true->aY n d2=true->Is X.K H f d1->Is X.K H g d2->aD f h->aD g i->SeqAt.EqAt A.in1 s h i (cZ d1 d2):=λc p2 i1 i2 r1 b=>(w (A:=A.in1) (by show A.units+1+n<cLine;lia) c p2 i1 i2 r1 b).2.1;by_cases f2:aY 0 d2=true
  .by_cases f1:aY 0 d1=true
   .exact yk f1 f2 i1 i2 r1 b
   .cases i1 with
    |tup h1 k1=>
     cases r1
     refine I.tupE h1 λits d O l=>?_;cases i2 with
     |non=>cases b;exact⟨.tuple_none O M,.tuple_none O M,.tuple_none O M⟩
     |bl=>cases b;exact⟨.tuple_bool _ O M,.tuple_bool _ O M,.tuple_bool _ O M⟩
     |int=>obtain⟨t,rfl⟩:=b;exact⟨.tuple_int _ _ O M,.tuple_int _ _ O M,.tuple_int _ _ O M⟩
     |str=>obtain⟨t,rfl⟩:=b;exact⟨.tuple_str _ _ O M,.tuple_str _ _ O M,.tuple_str _ _ O M⟩
     |_=>simp at f2
    |lst h1 k1=>
     cases r1
     refine I.lisE h1 λits d O l=>?_;replace O:=O.isList;cases i2 with
     |non=>cases b;exact⟨.list_none O M,.list_none O M,.list_none O M⟩
     |bl=>cases b;exact⟨.list_bool _ O M,.list_bool _ O M,.list_bool _ O M⟩
     |int=>obtain⟨t,rfl⟩:=b;exact⟨.list_int _ _ O M,.list_int _ _ O M,.list_int _ _ O M⟩
     |str=>obtain⟨t,rfl⟩:=b;exact⟨.list_str _ _ O M,.list_str _ _ O M,.list_str _ _ O M⟩
     |_=>simp at f2
    |_=>simp at f1 c
  .cases i2 with
   |tup h2 k2=>
    cases b
    refine I.tupE h2 λm o a z=>?_;cases i1 with
    |tup h1 k1=>
     cases r1
     refine I.tupE h1 λits d O l=>?_;rename_i r ws es u vs ds;have he:=yj (A:=A.in1) (p:=aY n) k k1 k2 d o (by simpa using c) (by simpa using p2);have v:((List.range (min its.toArray.size m.toArray.size)).all (λj=>cZ (ds.getD j .non) (es.getD j .non)) && its.toArray.size == m.toArray.size)=cZ (.tup ds) (.tup es):=by
      show _=m5 ds es;rw[vH,vH,<-d.length,<-o.length,k1.length,k2.length];by_cases hl:ds.length=es.length
      .rw[<-hl,Nat.min_self,beq_self_eq_true,Bool.and_true];exact iT _ hl λj x y e1 e2=>wj j x y e1 e2
      simp_all[wg]
     have rc:=SeqAt.RcAt.tuples O a M he;have q:=SeqAt.RcNeAt.tuples O a M he;rw[v]at rc q;exact Cp rc q λe=>by subst e;exact Co I (n+1) (.tup h1 k1) (.tup h2 k2) c
    |lst h1 k1=>cases r1;refine I.lisE h1 λits d O l=>?_;exact⟨.list_tuple O.isList a M,.list_tuple O.isList a M,.list_tuple O.isList a M⟩
    |non=>cases r1;exact⟨.none_tuple a M,.none_tuple a M,.none_tuple a M⟩
    |bl=>cases r1;exact⟨.bool_tuple _ a M,.bool_tuple _ a M,.bool_tuple _ a M⟩
    |int=>obtain⟨t,rfl⟩:=r1;exact⟨.int_tuple _ _ a M,.int_tuple _ _ a M,.int_tuple _ _ a M⟩
    |str=>obtain⟨t,rfl⟩:=r1;exact⟨.str_tuple _ _ a M,.str_tuple _ _ a M,.str_tuple _ _ a M⟩
    |_=>simp at c
   |lst h2 k2=>
    cases b
    refine I.lisE h2 λm o a z=>?_;replace a:=a.isList;cases i1 with
    |lst h1 k1=>
     cases r1
     refine I.lisE h1 λits d O l=>?_;replace O:=O.isList;rename_i r ws es u vs ds;have he:=yj (A:=A.in1) (p:=aY n) k k1 k2 d o (by simpa using c) (by simpa using p2);have both:SeqAt.RcAt A s (.ref u) (.ref r) (cZ (.lst ds) (.lst es))/\SeqAt.RcNeAt A s (.ref u) (.ref r) (!cZ (.lst ds) (.lst es)):=by
      have hz:its.toArray.size=ds.length/\m.toArray.size=es.length:=by rw[vH,vH,<-d.length,<-o.length,k1.length,k2.length];simp
      by_cases hl:ds.length=es.length
      .have v:(List.range its.toArray.size).all (λj=>cZ (ds.getD j .non) (es.getD j .non))=cZ (.lst ds) (.lst es):=by
        show _=m5 ds es;rw[hz.1];exact iT _ hl λj x y e1 e2=>wj j x y e1 e2
       have hs:=(hz.1.trans hl).trans hz.2.symm;have rc:=SeqAt.RcAt.lists O a hs M he;have q:=SeqAt.RcNeAt.lists O a hs M he;rw[v]at rc q;exact⟨rc,q⟩
      .have hs:(its.toArray.size != m.toArray.size)=true:=by simp_all
       rw[show cZ (.lst ds) (.lst es)=false from wg hl];exact⟨.lists_lengths O a hs M,.lists_lengths O a hs M⟩
     exact Cp both.1 both.2 λe=>by subst e;exact Co I (n+1) (.lst h1 k1) (.lst h2 k2) c
    |tup h1 k1=>cases r1;refine I.tupE h1 λits d O l=>?_;exact⟨.tuple_list O a M,.tuple_list O a M,.tuple_list O a M⟩
    |non=>cases r1;exact⟨.none_list a M,.none_list a M,.none_list a M⟩
    |bl=>cases r1;exact⟨.bool_list _ a M,.bool_list _ a M,.bool_list _ a M⟩
    |int=>obtain⟨t,rfl⟩:=r1;exact⟨.int_list _ _ a M,.int_list _ _ a M,.int_list _ _ a M⟩
    |str=>obtain⟨t,rfl⟩:=r1;exact⟨.str_list _ _ a M,.str_list _ _ a M,.str_list _ _ a M⟩
    |_=>simp at c
   |_=>simp at f2 p2
@[simp] def ko:D->D->OB:=λx y=>if aY 40 x=true/\aY 40 y=true then some (.bl (cZ x y),false)else none
@[simp] def GP:D->D->OB:=λx y=>if aY 40 x=true/\aY 40 y=true then some (.bl (!cZ x y),false)else none
def Zo (hu:X.A.units+40<cLine):c8 X (compareOp .Eq) (rD X.K ko):=by
 intro af s σ H x y v u Q I O a q;refine eS q λB dx g d b M c f e q=>?_;unfold ko at e;split at e
 .rename_i hp;cases e
  exact(OM I 40 hu hp.1 hp.2 (c.mono M) (f.mono M) O a).1 _ _ _ _ ⟨.bl _,H,I,rr,q.one M (.bl _)⟩
 simp_all
def Zp (hu:X.A.units+40<cLine):c8 X (compareOp .NotEq) (rD X.K GP):=by
 intro af s σ H x y v u Q I O a q;refine eS q λB dx g d b M c f e q=>?_;unfold GP at e;split at e
 .rename_i hp;cases e
  exact(OM I 40 hu hp.1 hp.2 (c.mono M) (f.mono M) O a).2.2 _ _ _ _ ⟨.bl _,H,I,rr,q.one M (.bl _)⟩
 simp_all
end
section
variable {X:Cx}{a b e:Expr}{pos:Pos}
def Cr {K:Frag}{H:Hp}{vs:LV}{ds:LD}{i:Int}{d:D}(h:IsL K H vs ds)(e:ly ds i=some d):∃v,ly vs i=some v/\Is K H v d:=by
 unfold ly at e |-;rw[h.length];cases q:GN _ i with
 |none=>rw[q]at e;cases e
 |some j=>rw[q]at e;exact h.get e
@[simp] noncomputable def dI:D->D->OB
 |.lst ds,.int i=>(ly ds i).map λd=>(d,false)
 |.tup ds,.int i=>(ly ds i).map λd=>(d,false)
 |.str z,.int i=>if z.length<=sizeLine then (ly z.cps.toList i).map λc=>(.str ⟨#[c]⟩,false)else none
 |_,_=>none
def Zq:Qu X (rD X.K dI):=by
 intro O f af s σ H x y v u Q I g j q hs;refine eS q λB dx m d b M k l e q=>?_;cases k<;>try (cases e)
 all_goals (cases l<;>try (cases e))
 .simp only[dI]at e;split at e
  .rename_i hz;refine eZ e λc e1 e2=>?_;cases e2
   exact AH _ _ _ s σ H _ _ v u Q I g j ⟨_,_,c,rr,rr,hz,e1,q.one M (.str _)⟩ hs
  simp_all
 .rename_i h hl i;refine eZ e λc e1 e2=>?_;cases e2
  obtain⟨w,h1,h2⟩:=Cr hl e1;exact pQ _ _ _ s σ H _ _ v u Q I g j ⟨_,_,_,w,rr,rr,aV M h,h1,q.one M h2⟩ hs
 .rename_i h hl i;refine eZ e λc e1 e2=>?_;cases e2
  obtain⟨w,h1,h2⟩:=Cr hl e1;exact LX _ _ _ s σ H _ _ v u Q I g j ⟨_,_,_,w,rr,rr,M.seq h,h1,q.one M h2⟩ hs
def UU (ha:JE X a fa)(hb:JE X b M)(hs:mo b):JE X (.Subscript a b pos) (f2 dI fa M):=PE.to (Hn Zq ha hb hs) λ_ _ _ h=>Mf h
abbrev FO:=Env->Option OI
def tDO (K:Frag)(f:FO):TO:=λσ H Q=>∃(B:Hp)(ρ:Env)(o:OI),aH B H/\eA K B σ ρ/\f ρ=some o/\∀H',aH H H'->Q o H'
abbrev JO (X:Cx)(e:Option Expr)(f:FO):Prop:=PO X e (tDO X.K f)
@[simp] def oG:FO:=λ_=>some none
@[simp] noncomputable def m6 (f:FE):FO:=λρ=>match f ρ with|some (.int i,_)=>some (some i)|_=>none
def M0:JO X none oG:=λaf s σ H Q I h=>LP _ s σ H Q I (by
 obtain⟨B,ρ,o,M,r,e,q⟩:=h;cases e
 exact q H (.refl H))
def M2 (h:JE X e f):JO X (some e) (m6 f):=λaf s σ H Q I q=>LQ h _ s σ H Q I (by
 obtain⟨B,ρ,o,M,r,e,q⟩:=q;unfold m6 at e;split at e
 .rename_i i b' O;cases e
  refine⟨B,ρ,_,_,M,r,O,λv c N1 d i1 _=>?_⟩;cases i1
  exact⟨i,rr,q c d.hh⟩
 simp_all)
def iD (ds:LD)(lo hi:OI):LD:=(ds.drop (HT.cQ ds.length 0 lo)).take (HT.cQ ds.length ds.length hi - HT.cQ ds.length 0 lo)
def wl {K:Frag}{H:Hp}{vs:LV}{ds:LD}{lo hi:OI}(h:IsL K H vs ds):IsL K H (sy vs lo hi) (iD ds lo hi):=by
 unfold sy iD;rw[h.length];exact(h.drop _).take _
def bu.to (h:bu X f r)(k:∀xs H Q,M xs H Q->r xs H Q):bu X f M:=λaf s σ H xs us Q I rs q=>h _ s σ H xs us Q I rs (k xs H Q q)
variable {es:QD}{x:Str}{p:Pos}{id T:String}
def HL (hc:bu X (.builtin id) (A3 X.K f))(hm:X.mg x=none)(hv:bootBuiltins x=some (.builtin id))(ha:JA X (e::es) fa)(c:Gl X x)(hn:x ≠ "__name__")(M:(x == ("__debug__" : Str))=false)
  (he:starEach (e::es) X.env=(false,eval e X.env)::starEach es X.env) (O:(backTo pos (starEach es X.env)).any (·.1)=false):JE X (.Call (.Name x p) (e::es) [] pos) (fA f fa):=PE.to (mm hc c hm hv ha hn M he O) λ_ _ _ h=>Mg h
def Fu (hc:bu X (.type T) (A3 X.K f))(hm:X.mg x=none)(hv:bootBuiltins x=some (.type T))(ha:JA X (e::es) fa)(c:Gl X x)(hn:x ≠ "__name__")(M:(x == ("__debug__" : Str))=false)
  (he:starEach (e::es) X.env=(false,eval e X.env)::starEach es X.env) (O:(backTo pos (starEach es X.env)).any (·.1)=false):JE X (.Call (.Name x p) (e::es) [] pos) (fA f fa):=PE.to (km hc c hm hv ha hn M he O) λ_ _ _ h=>Mg h
@[simp] noncomputable def hV:LD->OB
 |[.lst ds]=>some (.int ds.length,false)
 |[.tup ds]=>some (.int ds.length,false)
 |[.str z]=>if z.length<=sizeLine then some (.int z.length,false)else none
 |_=>none
def UV:bu X (.builtin "len") (A3 X.K hV):=by
 refine bu.to (bu.or vv vw) λxs H Q q=>?_;refine e7 q λB ds d b M i e q=>?_;cases i with
 |nil=>simp at e
 |cons i1 i2=>
  cases i2 with
  |cons _ _=>cases i1<;>simp at e
  |nil=>
   cases i1<;>try (simp at e;done)
   .simp only[hV]at e;split at e
    .rename_i hz;cases e
     exact .inr ⟨_,rr,hz,q.one M (.int _)⟩
    simp_all
   .rename_i h hl;cases e
    refine .inl ⟨_,_,rr,.inr (aV M h),?_⟩;rw[hl.length];exact q.one M (.int _)
   .rename_i h hl;cases e
    refine .inl ⟨_,_,rr,.inl (M.seq h),?_⟩;rw[hl.length];exact q.one M (.int _)
def UW (hm:X.mg x=none)(hv:bootBuiltins x=some (.type n))(M:Gl X x)(hn:x ≠ "__name__")(hd:(x == ("__debug__" : Str))=false):JE X (.Name x pos) (fC (.ty n)):=
 PE.to (L7 M hm hv (v:=.ty n) rr hn hd) λ_ _ _ h=>Ft (λ_=>.ty n) h
end
def la (hr:dr k A):A.units+40<cLine:=by have:=hr.un;lia
section
variable {X:Cx}{a b e:Expr}{pos:Pos}{x:Str}{p:Pos}
def HM (h:∃u v,X.mg x=some u/\aD v u/\∀B,Is X.K B v d)(M:Gl X x)(hd:(x == ("__debug__" : Str))=false):JE X (.Name x pos) (fC d):=by
 obtain⟨u,v,hm,r,i⟩:=h;exact Mr M hm r i hd
@[simp] noncomputable def UX:D->D->OB
 |.int i,.int j=>some (.int (i+j),false)
 |.str i,.str j=>if i.length+j.length<=sizeLine then some (.str (i++j),false)else none
 |_,_=>none
def M3:c8 X (binaryOp .Add) (rD X.K UX):=by
 refine iS (qd UM QT) λx y H Q q=>?_;refine eS q λB dx M d b O c f e q=>?_;refine⟨B,dx,M,d,b,O,c,f,?_,q⟩;cases dx<;>try (cases e)
 all_goals (cases M<;>try (done))
 all_goals simp_all[UK]
@[simp] def ym:D->D->OB:=UL
def Rb:c8 X (binaryOp .Mult) (rD X.K ym):=UO
@[simp] def Tl:D->D->OB:=iLt
def UY:c8 X (compareOp .Lt) (rD X.K Tl):=Zg
@[simp] noncomputable def ON:D->D->OB
 |.int i,.int j=>some (.bl (decide (i<=j)),false)
 |.str i,.str j=>some (.bl (!decide (j.cps.toList<i.cps.toList)),false)
 |_,_=>none
def UZ:c8 X (compareOp .LtE) (rD X.K ON):=by
 refine iS (qd Zh US) λx y H Q q=>?_;refine eS q λB dx M d b O c f e q=>?_;refine⟨B,dx,M,d,b,O,c,f,?_,q⟩;cases dx<;>try (cases e)
 all_goals (cases M<;>try (done))
 all_goals simp_all[UK]
@[simp] noncomputable def HN:D->OB
 |.int i=>some (.int (-i),false)
 |_=>none
def Va:Uj X (unaryOp .USub) (Za X.K HN):=by
 intro af s σ H x v Q I M q;obtain⟨B,dx,d,b,O,c,e,q⟩:=q;cases c<;>try (simp at e;done)
 cases e
 exact Qo _ s σ H _ v Q I M ⟨_,rr,q.one O (.int _)⟩
@[simp] noncomputable def Fv:D->D->Option Bool
 |x,.non=>some (match x with|.non=>true|_=>false)
 |x,.bl b=>some (match x with|.bl a=>a == b|_=>false)
 |_,_=>none
@[simp] def Tn:D->D->OB:=λx y=>(Fv x y).map λb=>(.bl b,false)
@[simp] def qe:D->D->OB:=λx y=>(Fv x y).map λb=>(.bl (!b),false)
def Cs {K:Frag}{B:Hp}{x y:V}{v u:Value}{dx M:D}{k:Bool}(f:Is K B x dx)(g:Is K B y M)(O:aD x v)(h:aD y u)(e:Fv dx M=some k):plainIs v u=true/\(v == u)=k:=by
 cases g<;>(first|(cases e;done)|skip)
 all_goals (cases f)
 all_goals (first|(obtain⟨t,rfl⟩:=O)|cases O)
 all_goals (cases h)
 all_goals (cases e)
 all_goals (first|exact⟨rr,rr⟩|skip)
 all_goals (rename_i c d;cases c<;>cases d<;>exact⟨rr,rr⟩)
def Zr:c8 X (compareOp .Is) (rD X.K Tn):=by
 intro af s σ H x y v u Q I M O q;refine eS q λB dx h d b c f g e q=>?_;refine eZ e λk ek e=>?_;cases e
 obtain⟨h1,h2⟩:=Cs f g M O ek;refine wpAny_is_plain h1 ⟨.bl k,H,I,by rw[h2];rfl,q.one c (.bl _)⟩
def M4:c8 X (compareOp .IsNot) (rD X.K qe):=by
 intro af s σ H x y v u Q I M O q;refine eS q λB dx h d b c f g e q=>?_;refine eZ e λk ek e=>?_;cases e
 obtain⟨h1,h2⟩:=Cs f g M O ek;refine wpAny_isNot_plain h1 ⟨.bl _,H,I,by rw[h2];rfl,q.one c (.bl _)⟩
@[simp] noncomputable def gO:D->Bool
 |.non=>true|.bl _=>true|.int _=>true|.str _=>true
 |_=>false
noncomputable def GQ (x:D)(ds:LD):Bool:=ds.any λy=>cZ y x
@[simp] noncomputable def fj:D->Option LD
 |.lst ds=>some ds
 |.tup ds=>some ds
 |_=>none
@[simp] def Fw:D->D->OB:=λx y=>(fj y).bind λds=>if gO x=true/\ds.all gO=true then some (.bl (GQ x ds),false)else none
@[simp] def f7:D->D->OB:=λx y=>(fj y).bind λds=>if gO x=true/\ds.all gO=true then some (.bl (!GQ x ds),false)else none
def qg {K:Frag}{B:Hp}{v:V}{d:D}(i:Is K B v d)(h:gO d=true):lg v=true:=by
 cases i<;>first|rfl|(simp at h)
def Zs {K:Frag}{B:Hp}{v w:V}{d e:D}(i:Is K B v d)(j:Is K B w e)(h:gO d=true)(h':gO e=true):LZ v w=cZ d e:=by
 cases i<;>(first|(simp at h)|skip)
 all_goals (cases j<;>(first|(done)|skip))
 all_goals rfl
theorem yn {K:Frag}{B:Hp}:∀ {vs:LV}{ds:LD},IsL K B vs ds->ds.all gO=true->vs.all lg=true
 |_,_,.nil,_=>rr
 |_,_,.cons i t,h=>by
  rw[all_cons,vC]at h;rw[all_cons,qg i h.1,yn t h.2];rfl
theorem HP {K:Frag}{B:Hp}{v:V}{d:D}(j:Is K B v d)(hd:gO d=true):∀ {vs:LV}{ds:LD},IsL K B vs ds->ds.all gO=true->Yp v vs=GQ d ds
 |_,_,.nil,_=>rr
 |_,_,.cons i t,h=>by
  rw[all_cons,vC]at h;have e:=HP j hd t h.2;unfold Yp GQ at *;rw[any_cons,any_cons,e,Zs i j h.1 hd]
def Vb:c8 X (compareOp .In) (rD X.K Fw):=by
 refine iS Ff λx y H Q q=>?_;refine cX λG g=>?_;obtain⟨B,dx,f,d,b,M,O,c,e,q⟩:=q;refine eX e λds es e=>?_;apply g;clear g;split at e
 .rename_i hf;cases e
  cases c<;>simp [fj]at es<;>try (cases es;done)
  .rename_i h hl;cases es
   exact⟨_,_,rr,.inr (aV M h),qg O hf.1,yn hl hf.2,by rw[HP O hf.1 hl hf.2];exact q.one M (.bl _)⟩
  .rename_i h hl;cases es
   exact⟨_,_,rr,.inl (M.seq h),qg O hf.1,yn hl hf.2,by rw[HP O hf.1 hl hf.2];exact q.one M (.bl _)⟩
 simp_all
def HQ:c8 X (compareOp .NotIn) (rD X.K f7):=by
 refine iS vt λx y H Q q=>?_;refine cX λG g=>?_;obtain⟨B,dx,f,d,b,M,O,c,e,q⟩:=q;refine eX e λds es e=>?_;apply g;clear g;split at e
 .rename_i hf;cases e
  cases c<;>simp [fj]at es<;>try (cases es;done)
  .rename_i h hl;cases es
   exact⟨_,_,rr,.inr (aV M h),qg O hf.1,yn hl hf.2,by rw[HP O hf.1 hl hf.2];exact q.one M (.bl _)⟩
  .rename_i h hl;cases es
   exact⟨_,_,rr,.inl (M.seq h),qg O hf.1,yn hl hf.2,by rw[HP O hf.1 hl hf.2];exact q.one M (.bl _)⟩
 simp_all
def HR:bootBuiltins "len" = some (.builtin "len"):=PySem.boot_len
def m7:bootBuiltins "isinstance" = some (.builtin "isinstance"):=S9
def Vc:bootBuiltins "min" = some (.builtin "min"):=S9
def Vd:bootBuiltins "all" = some (.builtin "all"):=S9
def OO:bootBuiltins "int" = some (.type "int"):=S9
def Rc:bootBuiltins "bool" = some (.type "bool"):=S9
def Ve:bootBuiltins "str" = some (.type "str"):=S9
def wn:bootBuiltins "list" = some (.type "list"):=S9
def Ct:bootBuiltins "tuple" = some (.type "tuple"):=S9
@[simp] noncomputable def add:LD->OB
 |[.int i,.int j]=>some (.int (if j > i then j else i),false)
 |_=>none
@[simp] noncomputable def Vf:LD->OB
 |[.int i,.int j]=>some (.int (if j<i then j else i),false)
 |_=>none
def HS {K:Frag}{B:Hp}{xs:LV}{i j:Int}(h:IsL K B xs [.int i,.int j]):xs=[.int i,.int j]:=by
 cases h with
 |cons h1 h2=>cases h1;cases h2 with|cons h3 h4=>cases h3;cases h4;rfl
def Vg (hc:X.calm=true):bu X (.builtin "min") (A3 X.K Vf):=by
 refine bu.to (Fb hc) λxs H Q q=>?_;refine e7 q λB ds d b M i e q=>?_;match ds,e with
 |[.int O,.int c],e=>cases e;exact⟨O,c,HS i,q.one M (.int _)⟩
@[simp] noncomputable def hW:D->String
 |.non=>"NoneType" | .bl _=>"bool" | .int _=>"int" | .str _=>"str" | .ty _=>"type" | .tup _=>"tuple" | .lst _=>"list" | .dk _ _=>"dict" | .dt _ _=>"dict"
@[simp] noncomputable def Fx:D->Bool
 |.ty _=>true
 |_=>false
@[simp] noncomputable def Cu (t n:String):OB:=
 if n = "int" then some (.bl (t == "int" || t == "bool"),false)else if n = "bool" then some (.bl (t == "bool"),false)else if n = "str" then some (.bl (t == "str"),false)
 else if n = "list" then some (.bl (t == "list"),false)else if n = "tuple" then some (.bl (t == "tuple"),false)else none
@[simp] def j9:LD->OB
 |[d,.ty n]=>if Fx d=true then none else Cu (hW d) n
 |_=>none
def M5 {af:AO}{σ:St}{H:Hp}{s:Shared}{A:Around}{E:QV}{Q:QV}{c:Value}{b:Bool}{v:V}{d:D}{u:Value}(I:Inv X af σ H s)(i:Is X.K H v d)(hd:∀n,d≠.ty n)(M:aD v u)(e:PySem.W.kitOne X.K (.type (hW d)) c=some b)(h:∀tk,Q (.bool b) { s with toks:=tk }):
  wpAny (model X.prog X.w) A (call (.builtin "isinstance") [u,c]) Q E s:=by
 cases i with
 |non=>exact fL I M .non e h
 |bl y=>exact fL I M (.bl y) e h
 |int y=>exact fL I M (.int y) e h
 |str y=>exact fL I M (.str y) e h
 |ty n=>exact absurd rr (hd n)
 |dk h1 _ _=>exact fL I M (.dK h1) e h
 |dt h1 _ _=>exact fL I M (.dT h1) e h
 |tup O _=>
  cases M
  obtain⟨its,_,⟨o,h1,h2,_⟩,_⟩:=I.tuple O;exact kia_one PySem.W.kitx_tuple I.kIn ⟨o,h1,h2⟩ e (λz=>nomatch z) h
 |lst hl _=>
  cases M
  obtain⟨its,_,⟨o,n,h1,h2,_⟩,_⟩:=I.list hl;exact kia_one PySem.W.kitx_list I.kIn ⟨o,h1,h2⟩ e (λz=>nomatch z) h
def HU (K:Frag)(d:D)(hd:∀n,d≠.ty n):
  PySem.W.kitOne K (.type (hW d)) (.type "int")=some (hW d == "int" || hW d == "bool")/\PySem.W.kitOne K (.type (hW d)) (.type "bool")=some (hW d == "bool")/\PySem.W.kitOne K (.type (hW d)) (.type "str")=some (hW d == "str") /\
   PySem.W.kitOne K (.type (hW d)) (.type "list")=some (hW d == "list")/\PySem.W.kitOne K (.type (hW d)) (.type "tuple")=some (hW d == "tuple"):=by
 cases d<;>(first|exact absurd _ _|skip)
 all_goals (refine⟨?_,?_,?_,?_,?_⟩<;>kernel_rfl)
def wo:bu X (.builtin "isinstance") (A3 X.K j9):=by
 intro af s σ H xs us Q I rs q;refine e7 q λB ds d b M i e q=>?_;cases i with
 |nil=>cases e
 |cons i1 i=>cases i with
 |nil=>cases e
 |cons i2 i=>
  cases i2<;>try (cases e)
  cases i<;>try (cases e)
  rename_i dx n;obtain⟨f,g,rfl,r1,O⟩:=Hi rs;cases O
  simp only[j9]at e;split at e
  .cases e
  .rename_i c;have hd:∀n,dx≠.ty n:=λn z=>by subst z;exact c rr
   obtain⟨k1,k2,k3,k4,k5⟩:=HU X.K dx hd;have dJ:∀ {k:Bool},PySem.W.kitOne _ _ (.type n)=some k->Fin X.K B H _ _ Q->wpAny _ X.A _ (EP X _ σ Q) X.xe s:=λ{k} hk q=>
    M5 I (i1.mono M) hd r1 hk λtk=>⟨.bl k,H,I.tok tk,rr,q.one M (.bl k)⟩
   unfold Cu at e;grind
@[simp] def HV (f:FE):FA:=λρ=>(f ρ).bind λx=>fj x.1
def Cv (h:JE X e f):JI X tg e (HV f):=by
 intro af s σ H R I q;refine cX λG K=>?_;obtain⟨B,ρ,ds,j,r,k,q⟩:=q;refine eX k λx ex es=>?_;obtain⟨xd,m⟩:=x;apply K;cases xd<;>simp [fj]at es<;>try (cases es;done)
 .cases es
  refine Qe h _ s σ H R I ⟨B,ρ,_,_,j,r,ex,λv g N1 c i1 _=>?_⟩;cases i1 with
  |@tup a vs _ O hl=>
   refine⟨a,rr,⟨vs,aV c.nh O⟩,q _ g N1 c λi H2 s2=>⟨λd ed=>?_,λM=>⟨vs,aV s2 O,by rw[hl.length];exact M⟩⟩⟩;obtain⟨v,ev,iv⟩:=hl.get ed;refine⟨⟨vs,v,aV s2 O,ev⟩,λy l hy=>?_⟩;obtain⟨rfl,hy⟩:=hy;have:=hy vs (aV s2 O);rw[ev]at this;cases this;exact⟨N1,.refl s2,iv⟩
 .cases es
  refine LB h _ s σ H R I ⟨B,ρ,_,_,j,r,ex,λv g N1 c i1 _=>?_⟩;cases i1 with
  |@lst a vs _ O hl=>
   refine⟨a,rr,⟨vs,c.nh.seq O⟩,q _ g N1 c λi H2 s2=>⟨λd ed=>?_,λM=>⟨vs,s2.seq O,by rw[hl.length];exact M⟩⟩⟩;obtain⟨v,ev,iv⟩:=hl.get ed;refine⟨⟨vs,v,s2.seq O,ev⟩,λy l hy=>?_⟩;obtain⟨rfl,hy⟩:=hy;have:=hy vs (s2.seq O);rw[ev]at this;cases this;exact⟨N1,.refl s2,iv⟩
noncomputable def bO (lo:Int)(n:Nat):LD:=(List.range n).map λ(k:Nat)=>.int (lo+(k:Int))
def yo {K:Frag}{B:Hp}(lo:Int)(n:Nat):nO K (Uf lo n) B (bO lo n):=by
 intro i H s;unfold bO;refine⟨λd ed=>?_,λhl=>by rw[vI,length_range]at hl;exact hl⟩;rw[vA]at ed;refine eZ ed λk ek ed=>?_;have hk:=vV ek;obtain⟨M,hk⟩:=hk;rw[length_range]at M;rw[getElem_range]at hk;subst hk;subst ed;refine⟨M,λx H' hy=>?_⟩;obtain⟨rfl,rfl⟩:=hy;exact⟨B,.refl s,.int _⟩
@[simp] def jA (f:FE):FA:=λρ=>match f ρ with
 |some (.int j,_)=>if -1000<=j/\j<=1000 then some (bO 0 j.toNat)else none
 |_=>none
def yp (hm:X.mg "range" = none)(h:JE X a f)(O:Gl X "range":=by rfl)(hs:starEach [a] X.env=[(false,eval a X.env)]:=by rfl):PI X tg (.Call (.Name "range" p) [a] [] pos) (Q5 X.K (jA f)):=by
 refine PI.to (EX O hm (eV h l5 hs) hs) λσ H R q=>?_;obtain⟨B,ρ,ds,c,r,M,q⟩:=q;unfold jA at M;split at M
 .rename_i j b' d;split at M
  .cases M
   refine⟨B,ρ,[.int j],c,r,by simp[d],λvs g N1 i i1=>?_⟩;cases i1 with
   |cons i1 i2=>
    cases i1;cases i2
    exact⟨j,rr,N9,N9,q _ g N1 i λ_=>yo 0 _⟩
  simp_all
 simp_all
def HW (hm:X.mg "range" = none)(h:JE X a f)(M:Gl X "range")(hs:starEach [a] X.env=[(false,eval a X.env)]):JI X tg (.Call (.Name "range" p) [a] [] pos) (jA f):=
 PI.to (yp hm h M hs) λσ H R ⟨B,ρ,ds,O,r,c,q⟩=>⟨B,ρ,ds,O,r,c,λJ H' N x h=>q J H' N x (h _)⟩
end
def bL (K:Frag)(x:Str)(st:Stmt):Prop:=∃(f:Addr)(fd:FuncData),S5 K x x st f fd/\nsIn K mainGlobals x=some (some (.ref f))
def def_mk {K:Frag}{x:Str}{st:Stmt}{f:Addr}{oc:Value}{od an:Option Addr}{nJ:Array (Option Value)}{kV doc pm dF ct:Value}(a:nsIn K mainGlobals x=some (some (.ref f)))
  (l:K.lookup f=some ⟨oc,od,.func (fnOf x x (fG st) (bM st) (aE st) .none kV doc pm an dF ct),nJ⟩) (c:PySem.W.codeIn K dF x=true) (k:PySem.W.keepIn K (.ref f)=true):bL K x st:=⟨f,_,Qw l c k,a⟩
section
variable {P:Program}{w:World}{K:Frag}{mg:SV}{base:Heap}
end
def Vh (H:Hp):Prop:=∀b,H b=none\/(∃o xs,H b=some (.frz o (.lst xs)))\/∃q,H b=some (.tbl q)
noncomputable def qh (M:List (Addr×Str))(G:Hp):Hp:=λb=>match M.lookup b with|some q=>some (.tbl q)|none=>G b
def fm (e:M.lookup b=some q):qh M G b=some (.tbl q):=by unfold qh;rw[e]
def iE (e:M.lookup b=none):qh M G b=G b:=by unfold qh;rw[e]
def Fy {P:Program}{w:World}{K:Frag}{mg mb:SV}{k:Nat}{fa a:Addr}{fd:FuncData}{x:Str}{sp:Sp}{M:Shared}{vs:LU}{ns:LI}(O:List (Addr×Str))
  (L:∀b q,O.lookup b=some q->M.heap.get? b=some (PySem.W.tabObj #[])/\isCodeTable M.heap b) (t:PySem.W.noTabs K=true)
  (y:K.In M.heap) (D:M.heap.Ns mainGlobals mg) (hb:M.heap.Ns builtinsNs mb) (A:∀x:Str,x ≠ "__name__"->mb x=bootBuiltins x) (B:M.heap.NoLimit)
  (N:∃bm ob,mg "__builtins__" = some (.ref bm)/\bm≠builtinsNs/\M.heap.get? bm=some ob/\ob.cls=.type "module"/\ob.dict=some builtinsNs/\ob.data=.plain) (Q:M.gens=#[])
  (ha:M.heap.get? a=some { cls:=.type "list",data:=.seq vs.toArray }) (hi:IntsAre vs ns) (hl:ns.length<=sizeLine) (hr:dr k callerA)
  (F:∀base:Heap,K.In base->base.Ns mainGlobals mg->sk P w K mg base A2 k fa fd [x] sp) (R:∀(s:Shared)(u:Value),BindsTo s fd ⟨[u],[]⟩ [(x,u)])
  (S:∀H:Hp,(∀b q,O.lookup b=some q->H b=some (.tbl q))->fF K H a (ns.map V.int)->sp [.ref a] H (λv _=>v=.bl true) λ_ _ _=>False):
  codeAny (model P w) callerA (.call (.ref fa) ⟨[.ref a],[]⟩) (λr s'=>r=.ok (.ret (.bool true))/\OldK M.heap s'.heap/\s'.os=M.os/\AllBare s'.gens) M:=by
 have rv:=L2.iC hi;have T:=hi.length;have E:∀H:Hp,Vh H->(∀b q,O.lookup b=some q->H b=some (.tbl q))->fF K H a (ns.map V.int)->kY P w H M.heap->(∀b q,H b=some (.tbl q)->M.heap.get? b=some (PySem.W.tabObj #[])/\isCodeTable M.heap b) ->
   (∀b o u,H b=some (.frz o u)->b=a)->(∀b o u,H b=some (.frz o u)->K.lookup b=none) ->
   codeAny (model P w) callerA (.call (.ref fa) ⟨[.ref a],[]⟩) (λr s'=>r=.ok (.ret (.bool true))/\OldK M.heap s'.heap/\s'.os=M.os/\AllBare s'.gens) M:=by
  intro H j U hS hok I hB X;have Y:∀ {b:Addr}{o:Obj},M.heap.get? b=some o->(o.cls≠.none)->(o.cls≠.type "list")->H b=none:=λ{b o} e d d'=>by
   rcases j b with q|⟨ob,xs,q⟩|⟨u,q⟩
   .exact q
   .grind
   simp_all<;>lia
  have C:∀ {b:Addr}{o:Obj}{es:Array DictEntry}{l:Nat},M.heap.get? b=some o->o.data=.dict es l->H b=none:=λ{b o es l} e d=>by
   rcases j b with q|⟨ob,xs,q⟩|⟨u,q⟩
   .exact q
   .grind
   grind
  have p:∀ {b:Addr}{m:SV},M.heap.Ns b m->(xK M.heap H).Ns b m:=λ{b m} ⟨o,es,l,e,d,r⟩=>⟨o,es,l,pL e (C e d),d,r⟩;have g:K.In (xK M.heap H):=λb o e=>pL (y b o e) (by
   rcases j b with q|⟨ob,xs,q⟩|⟨u,q⟩
   .exact q
   .rw[X b _ _ q]at e;cases e
   .have z:=(I b u q).1;rw[y b o e]at z;cases z
    have:=uR t _ (PySem.W.mem_of_lookupK e);simp at this)
  have Z:Mod K mg (xK M.heap H):=⟨g,p D,⟨mb,p hb,A⟩,let ⟨mc,h1,h2⟩:=B;⟨mc,p h1,h2⟩,by
   grind[pL]⟩
  have e0:Env0 P w K mg (xK M.heap H) callerA [] M H:=⟨rr,Z,λb o e=>L5 e,le_of_eq (EU _ _),trivial,λb hb=>absurd (show b∈([]:List Addr)from hb) X9,hok,.of_eq Q⟩;refine codeAny_mono ((F _ g (p D)).run callerA [] M H ⟨[.ref a],[]⟩ [.ref a] [.ref a] _ _ hr e0 (R M (.ref a)) (.cons rr .nil) (S H U hS)) λr s' h=>?_;cases r with
  |error e=>exact False.elim h
  |ok fl=>
   cases fl with
   |next=>exact False.elim h
   |brk=>exact False.elim h
   |cont=>exact False.elim h
   |ret u=>
    obtain⟨v,H',os,bare,un,J,r',q⟩:=h;have i:v=.bl true:=q;subst i;obtain rfl:u=Value.bool true:=r';have kp:=λb o n e=>un.keep b o e n (by intro z;exact absurd (show b∈([]:List Addr)from z) X9) X9;refine⟨rr,⟨λb o e=>?_,λb o e=>un.there b o e X9⟩,os,bare⟩;rcases j b with z|⟨ob,xs,z⟩|⟨u,z⟩
    .exact .inl (kp b o z e)
    .have z2:=un.frzs b ob _ z;obtain⟨e1,_⟩:=hok b _ z;obtain⟨e2,_⟩:=J b _ z2;rw[e]at e1;cases e1;exact .inl e2
    .obtain⟨e1,e2⟩:=I b u z;rw[e]at e1;cases e1;obtain⟨ps,e3,_⟩:=J b _ (un.tbls b u z);exact .inr (.inl ⟨e2,rr,#[],ps,rr,by simpa using e3⟩)
 have S8:∀q,O.lookup a≠some q:=λq z=>by
  simp_all
 have ta:O.lookup a=none:=by
  cases z:O.lookup a with
  |none=>rfl
  |some q=>exact absurd z (S8 q)
 have abV:∀(G:Hp) b q,O.lookup b=some q->bj P w (qh O G) M.heap b (.tbl q):=λG b q z=>⟨#[],(L b q z).1,trivial,λpos cv c=>by cases c⟩;cases hk:K.lookup a with
 |some o=>
  have e:=y a o hk;rw[ha]at e;cases e
  refine E (qh O λ_=>none) (λb=>?_) (λb q z=>fm z) (.inr ⟨_,vs.toArray,_,hk,rr,rr,rr,by simp_all,by simpa using rv⟩) (λb u z=>?_) (λb q z=>?_) (λb o u z=>?_) λb o u z=>?_
  all_goals cases f:O.lookup b with
   |none=>first|exact .inl (iE f)|(rw[iE f]at z;cases z)
   |some i=>first|exact .inr (.inr ⟨i,fm f⟩)|(rw[fm f]at z;cases z;done)|(rw[fm f]at z;grind)
 |none=>
  refine E (qh O λb=>if b=a then some _ else none) (λb=>?_) (λb q z=>fm z) (.inl (.inr ⟨{ cls:=.type "list",data:=.seq vs.toArray },by rw[iE ta,if_pos rr]⟩)) (λb u z=>?_) (λb q z=>?_) (λb o u z=>?_) λb o u z=>?_
  all_goals cases f:O.lookup b with
   |some i=>first|exact .inr (.inr ⟨i,fm f⟩)|(rw[fm f]at z;cases z;done)|(rw[fm f]at z;grind)
   |none=>
    first
    |rw[iE f]at z
    |rw[iE f]
    by_cases hb:b=a
    .first
     |rw[if_pos hb]at z
     |rw[if_pos hb]
     first
     |exact .inr (.inl ⟨_,_,rr⟩)
     | (cases z;subst hb;exact⟨ha,by rw[vI];exact hl,vs,_,rv,ha⟩)
     |exact hb
     | (rw[hb];exact hk)
     |cases z
    .simp_all
noncomputable def wt (L:List (Str×Option (Addr×Addr))):List (Addr×Str):=L.filterMap λp=>p.2.map λq=>(q.2,sD p.1)
structure pK (K:Frag)(L:List (Str×Option (Addr×Addr))):Prop where
 names:L=j6.map λx=>(x,PySem.W.tabIn K x)
 apart:((wt L).map (·.1)).Nodup
 none:PySem.W.noTabs K=true
theorem li {α M:Type}[BEq α][LawfulBEq α]:∀ {l:List (α×M)}{a:α}{b:M},(l.map (·.1)).Nodup->(a,b)∈l->l.lookup a=some b
 | (c,d)::l,a,b,nd,h=>by
  rw[lookup_cons];rcases vP h with e|h
  .cases e;simp
  .have ne:a≠c:=λz=>(nodup_cons.mp nd).1 (by grind);rw[show(a == c)=false by simpa using ne];exact li (nodup_cons.mp nd).2 h
theorem jB {α M:Type}[BEq α][LawfulBEq α]:∀ {l:List (α×M)}{a:α}{b:M},l.lookup a=some b->(a,b)∈l
 | (c,d)::l,a,b,h=>by
  rw[lookup_cons]at h;cases e:a == c with
  |true=>simp_all
  |false=>rw[e]at h;exact mZ _ (jB h)
def pK.tb {K:Frag}{L:List (Str×Option (Addr×Addr))}(F:pK K L){H:Hp}(h:∀b q,(wt L).lookup b=some q->H b=some (.tbl q)):Tb K H:=λx hx c P e=>by
 refine h P _ (li F.apart ?_);rw[F.names];exact mem_filterMap.mpr ⟨(x,PySem.W.tabIn K x),uS ⟨x,hx,rr⟩,by rw[e];rfl⟩
def tab_no {K:Frag}{x:Str}(e:nsIn K mainGlobals x=some none):PySem.W.tabIn K x=none:=by unfold PySem.W.tabIn;rw[e]
def tab_yes {K:Frag}{x:Str}{f c P:Addr}{oc O:Value}{od a:Option Addr}{nJ M:Array (Option Value)}{fd:FuncData}{vs:AV}(e1:nsIn K mainGlobals x=some (some (.ref f)))(e2:K.lookup f=some ⟨oc,od,.func fd,nJ⟩)(b:fd.code=.ref c)
  (d:K.lookup c=some ⟨O,a,.fields vs,M⟩) (e:vs[11]? = some (.ref P)):PySem.W.tabIn K x=some (c,P):=by simp_all[PySem.W.tabIn]
def tabs_fit {K:Frag}{M O a b c:Option (Addr×Addr)}(h0:PySem.W.tabIn K "in_order" = M)(h1:PySem.W.tabIn K "has_seal" = O)(h2:PySem.W.tabIn K "is_first_death" = a)(h3:PySem.W.tabIn K "bases_by" = b)(h4:PySem.W.tabIn K "as_heard" = c)
  (ap:((wt [("in_order",M),("has_seal",O),("is_first_death",a),("bases_by",b),("as_heard",c)]).map (·.1)).Nodup) (nt:PySem.W.noTabs K=true):pK K [("in_order",M),("has_seal",O),("is_first_death",a),("bases_by",b),("as_heard",c)]:=
 ⟨by subst h0;subst h1;subst h2;subst h3;subst h4;rfl,ap,nt⟩
def bL.law {P:Program}{w:World}{K:Frag}{mg:SV}{x y:Str}{st:Stmt}{N:LS}{k:Nat}{g:FS}{h:Heap}{fa:Addr}(F:bL K x st)(X:K.In h)(G:h.Ns mainGlobals mg)(M:mg x=some (.ref fa))(S:FnScope N [y] (aE st))
  (O:∀(kV doc pm:Value)(an:Option Addr)(dF ct:Value)(u:Value),bindArgs (fnOf x x (fG st) (bM st) (aE st) .none kV doc pm an dF ct) ⟨[u],[]⟩=pure [(y,u)])
  (hb:∀(base:Heap),K.In base->base.Ns mainGlobals mg->∀(f:Addr)(dF:Value)(A:Around)(outer:List PySem.Env)(s:Shared)(H:Hp)(E:XK),dr k (A.deeper (envOfC x (aE st) s.z f dF))->xY (pN A2 P w K mg base N x (aE st) f dF A outer s H E).nox (bM st) g):
  ∃fd:FuncData,(∀(s:Shared)(u:Value),BindsTo s fd ⟨[u],[]⟩ [(y,u)])/\∀base:Heap,K.In base->base.Ns mainGlobals mg->sk P w K mg base A2 (k+1) fa fd [y] (Lp K (ax g 1 (N.length - 1))):=by
 obtain⟨f,fd,b,a⟩:=F;have e:=M.symm.trans (mg_of X G a);cases e
 refine⟨fd,λs u=>?_,λbase c d=>Zm b S (hb _ c d _)⟩;obtain⟨oc,od,kV,doc,pm,an,dF,ct,nJ,rfl,lk,i⟩:=b.ex;exact .of_eq (O kV _ pm an _ ct u)
section
variable {X:Cx}{a b e:Expr}{pos:Pos}{x:Str}{p:Pos}
@[simp] noncomputable def Vi:D->D->OB
 |.lst xs,.lst ys=>if xs.length+ys.length<=sizeLine then some (.lst (xs++ys),true)else none
 |_,_=>none
def Re:c8 X (binaryOp .Add) (rD X.K Vi):=by
 intro af s σ H x y v u Q I n r q;refine eS q λB dx C d bb f t w c q=>?_;cases t<;>try (cases c;done)
 all_goals (cases w<;>try (cases c;done))
 rename_i l vs ds h hl z ws es h' O;simp only[Vi]at c;split at c
 .rename_i hz;cases c
  cases n
  cases r
  refine cX λW Y=>?_;refine I.lisE (f.seq h) λits r1 A D=>?_;refine I.lisE (f.seq h') λM g p2 E=>?_;obtain⟨⟨G,d1,J,s1⟩,i,e1,n1,k1⟩:=A.isList;obtain⟨⟨c2,d2,L,s2⟩,j,e2,n2,k2⟩:=p2.isList;apply Y;clear Y;subst e1;subst k1;subst e2;subst k2;have hsz:its.toArray.size+M.toArray.size<=sizeLine:=by
   rw[vH,vH,<-r1.length,<-g.length,hl.length,O.length];exact hz
  have ea:its.toArray++M.toArray=(its++M).toArray:=X9
  refine concat_meets ⟨_,i,rr⟩ ⟨_,j,rr⟩ noFill_list_add seq_list_add PySem.F.slot_list_add PySem.F.entry_list_add (PySem.F.args_list_add_2 _ _) (list_addW l z its.toArray M.toArray n1 n2 d1 d2 s1 s2 hsz) ⟨i,j,?_⟩;rw[ea];have k:=Ext.laid (o:=.lst (vs++ws)) f I.fresh;have m:=(hl.append O).mono k.bn;exact⟨.ref _,_,I.lnew (r1.append g) (by rw[uZ,hl.length,O.length];exact hz),rr,q _ _ _ k (.lst (fF.of au) m) λ_=>⟨_,_,_,rr,rr,I.fresh,au,m⟩⟩
 simp_all
@[simp] noncomputable def Vj:D->D->OB
 |.tup xs,.tup ys=>if xs.length+ys.length<=sizeLine/\xs.isEmpty=false then some (.tup (xs++ys),false)else none
 |_,_=>none
def Rf:c8 X (binaryOp .Add) (rD X.K Vj):=by
 refine iS LR λx y H Q q=>?_;refine eS q λB dx k d bb c g i O q=>?_;cases g<;>try (cases O)
 all_goals (cases i<;>try (cases O))
 rename_i l vs ds h hl j ws es h' M;simp only[Vj]at O;split at O
 .cases O
  have l1:=hl.length;have l2:=M.length;refine⟨l,j,vs,ws,rr,rr,aV c h,aV c h',λz=>?_,N9,λz=>?_,λ_ pp hp=>?_⟩
  .grind
  .subst z;cases M
   rw[uQ]at q;exact q.one c (.tup h hl)
  .have f:=Ext.laid (o:=.tup (vs++ws)) c hp;exact q _ _ _ f (.tup (gN.of au) ((hl.append M).mono f.bn)) X9
 simp_all
@[simp] noncomputable def Zt:D->D->OB
 |.bl i,.int j=>some (.int ((if i=true then 1 else 0)+j),false)
 |.int i,.bl j=>some (.int (i+b2i j),false)
 |_,_=>none
def Rh:c8 X (binaryOp .Add) (rD X.K Zt):=by
 intro af s σ H x y v u Q I O c q;refine eS q λB dx i d bb f g h M q=>?_;cases g<;>try (cases M)
 all_goals (cases h<;>try (cases M;done))
 .cases M
  cases O
  obtain⟨t,rfl⟩:=c;exact IntBool.add_bool_int ⟨.int _,H,I.tok _,⟨_,rr⟩,q.one f (.int _)⟩
 .cases M
  exact Fa _ s σ H _ _ v u Q I O c ⟨_,_,rr,rr,q.one f (.int _)⟩
noncomputable def iU:D->D->OB
 |.int i,.int j=>some (.int (i+j),false)
 |.str i,.str j=>if i.length+j.length<=sizeLine then some (.str (i++j),false)else none
 |.lst xs,.lst ys=>if xs.length+ys.length<=sizeLine then some (.lst (xs++ys),true)else none
 |.tup xs,.tup ys=>if xs.length+ys.length<=sizeLine/\xs.isEmpty=false then some (.tup (xs++ys),false)else none
 |.bl i,.int j=>some (.int ((if i=true then 1 else 0)+j),false)
 |.int i,.bl j=>some (.int (i+b2i j),false)
 |_,_=>none
@[simp] def zz0 (i j:Int):iU (.int i) (.int j)=some (.int (i+j),false):=rfl
@[simp] def zz1 (i j:Str):iU (.str i) (.str j)=if i.length+j.length<=sizeLine then some (.str (i++j),false)else none:=rfl
@[simp] def zz2 (i j:LD):iU (.lst i) (.lst j)=if i.length+j.length<=sizeLine then some (.lst (i++j),true)else none:=rfl
@[simp] def zz3 (i j:LD):iU (.tup i) (.tup j)=if i.length+j.length<=sizeLine/\i.isEmpty=false then some (.tup (i++j),false)else none:=rfl
@[simp] def zz4 (i:Bool)(j:Int):iU (.bl i) (.int j)=some (.int ((if i=true then 1 else 0)+j),false):=rfl
@[simp] def zz5 (i:Int)(j:Bool):iU (.int i) (.bl j)=some (.int (i+b2i j),false):=rfl
def Ri:c8 X (binaryOp .Add) (rD X.K iU):=by
 refine iS (qd M3 (qd Re (qd Rf Rh))) λx y H Q q=>?_;refine eS q λB dx M d bb O c f g q=>?_;refine⟨B,dx,M,d,bb,O,c,f,?_,q⟩;cases dx<;>try (cases g)
 all_goals (cases M<;>try (cases g;done))
 all_goals simp_all[UK]
@[simp] noncomputable def Zu:D->Option Bool
 |.bl b=>some b
 |_=>none
def sE:LD->Option (List Bool)
 |[]=>some []
 |d::ds=>(Zu d).bind λb=>(sE ds).map (b :: ·)
@[simp] def Vk:sE []=some []:=rfl
@[simp] def To (d:D)(ds:LD):sE (d::ds)=(Zu d).bind λb=>(sE ds).map (b :: ·):=rfl
theorem wu {K:Frag}{B:Hp}:∀ {vs:LV}{ds:LD}{bs:List Bool}{its:LU},L2.aL vs its->IsL K B vs ds->sE ds=some bs->its=bs.map Value.bool
 |_,_,_,_,.nil,.nil,e=>by cases e;rfl
 |_,_,_,_,.cons r M,.cons i O,e=>by
  refine eX e λb e1 e=>?_;refine eZ e λbs e2 e=>?_;subst e;cases i<;>simp [Zu]at e1<;>try (cases e1;done)
  cases e1
  cases r
  rw[wu M O e2];rfl
@[simp] def M6:LD->OB
 |[.lst ds]=>(sE ds).map λbs=>(.bl (bs.all id),false)
 |_=>none
@[simp] def Rk:LD->OB
 |[.lst ds]=>(sE ds).map λbs=>(.bl (bs.any id),false)
 |_=>none
def Vl (hc:X.calm=true):bu X (.builtin "all") (A3 X.K M6):=by
 intro af s σ H xs us Q I rs q;refine e7 q λB ds d bb k i M q=>?_;cases i with
 |nil=>cases M
 |cons i1 i=>
  cases i with
  |cons _ _=>cases i1<;>cases M
  |nil=>
   cases i1<;>try (cases M;done)
   rename_i l vs es h hl;refine eZ M λbs n M=>?_;cases M
   obtain⟨u,rfl,r1⟩:=eB rs;cases r1
   refine I.lisE (k.seq h) λits rv f w=>?_;have ei:=wu rv hl n;have r:l<s.z:=by obtain⟨_,O,_⟩:=f.isList;exact vX O
   refine call_all_walk (wpAny_pyIter_list f.isList ⟨_,_,_,_,_,_,λj=>(bs[j]?).getD true,rr,Walks.list (A:=X.A.in1) (I.ok.hd hc) _ l (vS r) _,⟨⟨_,vY _ rr,rr,rr⟩,f.isList.push _⟩,λj v s' y z t g=>?_,λh' tk hk=>?_⟩)
   .have m:=by simpa using t
    rw[ei,vA]at m;refine eZ m λc e1 e2=>?_;subst e2;dsimp only at g;rw[e1]at g;exact wpAny_truthy_bool g
   .have ea:((List.range its.toArray.size).all λj=>(bs[j]?).getD true)=bs.all id:=by
     simp_all[LSm.range_all]
    rw[ea];refine⟨.bl _,H,I.kept λc o O=>?_,rr,q.one k (.bl _)⟩;exact hk c o (λhm=>by rw[uT hm]at O;exact Nat.lt_irrefl _ (vX O)) (vZ _ O)
def Vm (hc:X.calm=true):bu X (.builtin "any") (A3 X.K Rk):=by
 intro af s σ H xs us Q I rs q;refine e7 q λB ds d bb k i M q=>?_;cases i with
 |nil=>cases M
 |cons i1 i=>
  cases i with
  |cons _ _=>cases i1<;>cases M
  |nil=>
   cases i1<;>try (cases M;done)
   rename_i l vs es h hl;refine eZ M λbs n M=>?_;cases M
   obtain⟨u,rfl,r1⟩:=eB rs;cases r1
   refine I.lisE (k.seq h) λits rv f w=>?_;have ei:=wu rv hl n;have r:l<s.z:=by obtain⟨_,O,_⟩:=f.isList;exact vX O
   refine call_any_walk (wpAny_pyIter_list f.isList ⟨_,_,_,_,_,_,λj=>(bs[j]?).getD false,rr,Walks.list (A:=X.A.in1) (I.ok.hd hc) _ l (vS r) _,⟨⟨_,vY _ rr,rr,rr⟩,f.isList.push _⟩,λj v s' y z t g=>?_,λh' tk hk=>?_⟩)
   .have m:=by simpa using t
    rw[ei,vA]at m;refine eZ m λc e1 e2=>?_;subst e2;dsimp only at g;rw[e1]at g;exact wpAny_truthy_bool g
   .have ea:((List.range its.toArray.size).any λj=>(bs[j]?).getD false)=bs.any id:=by
     simp_all[LSm.range_any]
    rw[ea];refine⟨.bl _,H,I.kept λc o O=>?_,rr,q.one k (.bl _)⟩;exact hk c o (λhm=>by rw[uT hm]at O;exact Nat.lt_irrefl _ (vX O)) (vZ _ O)
def Vn:bootBuiltins "any" = some (.builtin "any"):=S9
end
noncomputable def OP (z:Str):It:=⟨λi _=>i<z.cps.size,λi H v H'=>H'=H/\∃c,z.cps[i]? = some c/\v=.str ⟨#[c]⟩,λi _=>z.cps.size<=i⟩
def yq {P:Program}{w:World}{K:Frag}{tg:Expr}(z:Str)(t:Tok)(it:Addr):Turn P w K tg (OP z) [it] it (λi h=>h.IsStrIter it "str_ascii_iterator" z t i) where
 mem:=mem_singleton.mpr rr
 obj:=λi h st b hb=>by
  have g:=uT hb;obtain⟨o,e1,_,d1⟩:=st;simp_all
 keep:=λi h h' st k=>let ⟨o,e1,r⟩:=st;⟨o,k it (mem_singleton.mpr rr) o e1,r⟩
 item:=by
  intro X j hw l hc i af s σ H E I hf st O;have m:i<z.cps.size:=O;obtain⟨a,f1,f2,d,e,f⟩:=hf it (mem_singleton.mpr rr);refine wpAny_pyNext_ascii_item st (c:=z.cps[i]) (by simp ) λh' M n=>?_;obtain⟨o,e1,p,d1⟩:=id M;exact⟨_,rr,tm e1 p d1 H9 ⟨.str _,H,I.turned (λb o hb e2=>(n.2 b hb).trans e2) a f1 d e f,⟨_,rr⟩,⟨rr,_,by simp ,rr⟩,M,λb hb=>(hf b hb).1⟩⟩
 done:=by
  intro X j hw l hc i af s σ H E I hf st O;have m:z.cps.size<=i:=O;obtain⟨a,f1,f2,d,e,f⟩:=hf it (mem_singleton.mpr rr);exact wpAny_pyNext_ascii_end (I.ok.hd hc) st I9 λh' g=>⟨rr,I.turned (λb o hb e2=>g b o hb e2) a f1 d e f⟩
 self:=λ_ _ _ _ _ st h=>wpAny_pyIter_striter_ascii st h
def yr {P:Program}{w:World}{K:Frag}{tg:Expr}(z:Str)(t:Tok)(it:Addr):Turn P w K tg (OP z) [it] it (λi h=>h.IsStrIter it "str_iterator" z t i) where
 mem:=mem_singleton.mpr rr
 obj:=λi h st b hb=>by
  have g:=uT hb;obtain⟨o,e1,_,d1⟩:=st;simp_all
 keep:=λi h h' st k=>let ⟨o,e1,r⟩:=st;⟨o,k it (mem_singleton.mpr rr) o e1,r⟩
 item:=by
  intro X j hw l hc i af s σ H E I hf st O;have m:i<z.cps.size:=O;obtain⟨a,f1,f2,d,e,f⟩:=hf it (mem_singleton.mpr rr);refine wpAny_pyNext_wide_item st (c:=z.cps[i]) (by simp ) λh' M n=>?_;obtain⟨o,e1,p,d1⟩:=id M;exact⟨_,rr,tm e1 p d1 H9 ⟨.str _,H,I.turned (λb o hb e2=>(n.2 b hb).trans e2) a f1 d e f,⟨_,rr⟩,⟨rr,_,by simp ,rr⟩,M,λb hb=>(hf b hb).1⟩⟩
 done:=by
  intro X j hw l hc i af s σ H E I hf st O;have m:z.cps.size<=i:=O;obtain⟨a,f1,f2,d,e,f⟩:=hf it (mem_singleton.mpr rr);exact wpAny_pyNext_wide_end (I.ok.hd hc) st I9 λh' g=>⟨rr,I.turned (λb o hb e2=>g b o hb e2) a f1 d e f⟩
 self:=λ_ _ _ _ _ st h=>wpAny_pyIter_striter_wide st h
section
variable {X:Cx}{a b e:Expr}{pos:Pos}{x:Str}{p:Pos}{tg:Expr}
def HX {l:Expr}{tl:TE}(hl:PE X l tl):PI X tg l (λσ H R=>tl σ H λx M=>∃z,x=.str z/\R (OP z) M):=by
 intro af s σ H R I h;refine bD (hl _ s σ H _ I h) λv s1 ⟨x,M,O,r1,c⟩=>?_;obtain⟨z,rfl,q⟩:=c;obtain⟨t,rfl⟩:=r1;have fp:∀b∈[s1.z],lw X _ M b:=λb hb=>by
  rw[uT hb];exact O.fpOk (vT _) (O.hok.fresh (vT _))
 cases ha:z.cps.all _ with
 |true=>exact wpAny_pyIter_ascii ha ⟨_,[s1.z],_,_,M,rr,O.kept λb o e=>vZ _ e,yq z t _,⟨_,vY _ rr,rr,rr⟩,fp,q⟩
 |false=>exact wpAny_pyIter_wide ha ⟨_,[s1.z],_,_,M,rr,O.kept λb o e=>vZ _ e,yr z t _,⟨_,vY _ rr,rr,rr⟩,fp,q⟩
noncomputable def yt (z:Str):LD:=z.cps.toList.map λc=>.str ⟨#[c]⟩
def HY {K:Frag}{B:Hp}(z:Str):nO K (OP z) B (yt z):=by
 intro i H s;refine⟨λd ed=>?_,λhl=>by unfold yt at hl;show z.cps.size<=i;simp_all⟩;unfold yt at ed;rw[vA]at ed;obtain⟨c,O,rfl⟩:=oY ed;have M:=by simpa using O
 refine⟨(Array.getElem?_eq_some_iff.mp M).1,λv H' hy=>?_⟩;obtain⟨rfl,f,e1,rfl⟩:=hy;rw[M]at e1;cases e1;exact⟨B,.refl s,.str _⟩
@[simp] def Rm:D->Option LD
 |.lst ds=>some ds
 |.tup ds=>some ds
 |.str z=>some (yt z)
 |_=>none
@[simp] def df (f:FE):FA:=λρ=>(f ρ).bind λx=>Rm x.1
def Rn (h:JE X e f):JI X tg e (df f):=by
 intro af s σ H R I q;refine cX λG K=>?_;obtain⟨B,ρ,ds,M,r,O,q⟩:=q;refine eX O λc ex es=>?_;obtain⟨xd,i⟩:=c;apply K;cases xd with
 |lst l=>exact Cv h _ s σ H R I ⟨B,ρ,ds,M,r,by unfold HV;rw[ex];exact es,q⟩
 |tup l=>exact Cv h _ s σ H R I ⟨B,ρ,ds,M,r,by unfold HV;rw[ex];exact es,q⟩
 |str z=>
  cases es
  refine HX h _ s σ H R I ⟨B,ρ,_,_,M,r,ex,λv d N1 g i1 _=>?_⟩;cases i1
  exact⟨z,rr,q _ d N1 g (HY z)⟩
 |_=>cases es
def M7:GL X (λx lo hi H Q=>∃z,x=.str z/\z.length<=sizeLine/\Q (.str (Txt.slice z lo hi)) H):=by
 intro af s σ H x v vl d lo hi sl Q I c hs pl O h;obtain⟨z,rfl,hz,q⟩:=h;obtain⟨t,rfl⟩:=c;have dJ:∀lo hi,Q (.str (Txt.slice z lo hi)) H->(Txt.slice z lo hi).length<=sizeLine/\∀t' k,EP X af σ Q _ _:=λlo hi q=>
  ⟨vR (Txt.slice_le z _ _) hz,λt' k=>⟨.str _,H,I.tok k,⟨t',rr⟩,q⟩⟩
 refine⟨"str",_,PySem.F.slot_str_getitem.lookup,typeIs_str _ _ _,?_⟩;cases pl with
 |none=>
  cases O with
  |none=>exact wpAny_getItem_str_slice (l:=none) (u:=none) (st:=none) hs rr (post_val_or_str (dJ _ _ q))
  |int j M=>exact wpAny_getItem_str_slice (l:=none) (u:=some (j,M)) (st:=none) hs rr (post_val_or_str (dJ _ _ q))
 |int i ti=>
  cases O with
  |none=>exact wpAny_getItem_str_slice (l:=some (i,ti)) (u:=none) (st:=none) hs rr (post_val_or_str (dJ _ _ q))
  |int j M=>exact wpAny_getItem_str_slice (l:=some (i,ti)) (u:=some (j,M)) (st:=none) hs rr (post_val_or_str (dJ _ _ q))
def Fz {A:Around}{E:QV}{s:Shared}{prog:Program}{w:World}{t sl:Addr}{items:AV}{vl d:Value}{lo hi:OI}{Q:QV}(M:IsTup s.heap t items)(hs:s.heap.IsSliceOf sl vl d .none)(pl:IsPart vl lo)(f:IsPart d hi)
  (h0:HT.cQ items.size 0 lo=0) (h1:HT.cQ items.size items.size hi=items.size) (h:Q (.ref t) s):wpAny (model prog w) A (getItem (.ref t) (.ref sl)) Q E s:=by
 obtain⟨os,O,g,i⟩:=id hs
 have j:s.TypeIs (.ref sl) _:=⟨os,O,g⟩
 unfold getItem
 try with_reducible refine wpAny_holding ?_
 refine wX (wpAny_sequenceKey M.typeIs H9 ?_)
 refine wX (wpAny_callSpecial?_slot M.typeIs PyProof.Rows.slot_tuple_getitem (wpAny_call_entry PyProof.Rows.slot_tuple_getitem M.typeIs entry_tuple_getitem ?_ (args_tuple_getitem _ _)))
 show wpAny _ _ (Builtin.Tuple.tupleItemsOf _>>=_) _ _ s
 refine wX (tupleItemsOf_ M ?_)
 refine wX (wpAny_typeOf j ?_)
 refine wX (HT.iB hs pl f ?_)
 have c:(((HT.cQ items.size 0 lo:Nat):Int) == 0 && (1:Int) == 1 && (HT.cQ items.size items.size hi - HT.cQ items.size 0 lo) == items.size)=true:=by
  rw[h0,h1];simp
 show wpAny _ _ (if(((HT.cQ _ 0 lo:Nat):Int) == 0 && (1:Int) == 1 && (HT.cQ _ _ hi - HT.cQ _ 0 lo) == items.size)=true then _ else _) _ _ s
 rw[if_pos c]
 refine wX ?_
 refine wX (wpAny_typeOf M.typeIs (wY ?_))
 refine wX (wpAny_rule ?_)
 exact wY ⟨_,rr,wY h⟩
def M8:GL X (λx lo hi H Q=>∃a xs,x=.ref a/\gN X.K H a xs/\HT.cQ xs.length 0 lo=0/\HT.cQ xs.length xs.length hi=xs.length/\Q (.ref a) H):=by
 intro af s σ H x v vl f lo hi sl Q I c hs pl d h;obtain⟨a,xs,rfl,hx,h0,h1,q⟩:=h;cases c
 refine I.tupE hx λits r O hz=>?_;have M:its.toArray.size=xs.length:=by exact r.length.symm
 refine⟨"tuple",_,PyProof.Rows.slot_tuple_getitem.lookup,O.typeIs,?_⟩;exact Fz O hs pl d (by rw[M];exact h0) (by rw[M];exact h1) ⟨.ref a,H,I,rr,q⟩
@[simp] def Lq (fa:FE)(fl M:FO):FE:=λρ=>(fa ρ).bind λx=>(fl ρ).bind λl=>(M ρ).bind λh=>match x.1 with
 |.lst ds=>some (.lst (iD ds l h),true)
 |.tup ds=>some (.tup (iD ds l h),false)
 |.str z=>if z.length<=sizeLine then some (.str (Txt.slice z l h),false)else none
 |_=>none
def AR {ds:LD}{lo hi:OI}(h0:HT.cQ ds.length 0 lo=0)(h1:HT.cQ ds.length ds.length hi=ds.length):iD ds lo hi=ds:=by
 unfold iD;rw[h0,h1];simp
def HZ {lo hi:Option Expr}{p2:Pos}{fa:FE}{fl i:FO}(ha:JE X e fa)(hl:JO X lo fl)(hh:JO X hi i):JE X (.Subscript e (.Slice lo hi none p2) pos) (Lq fa fl i):=by
 refine PE.to (Hm (GL.or (GL.or LY Qt) (GL.or M7 M8)) ha hl hh) λσ H Q q=>?_;refine cX λG K=>?_;obtain⟨B,ρ,d,b,j,r,e,q⟩:=q;refine eX e λx ex e=>?_;refine eX e λl k e=>?_;refine eX e λh m e=>?_;apply K;clear K;refine⟨B,ρ,x.1,x.2,j,r,ex,λv s N1 M i1 _=>⟨N1,ρ,l,M.nh,r.mono M.bn,k,λH2 h2=>⟨N1,ρ,h,M.nh.trans h2,r.mono M.bn,m,λn h3=>?_⟩⟩⟩;have O:aH N1 n:=M.nh.trans (h2.trans h3);have f:=q.into (M.trans (.grow M.nh (h2.trans h3)));obtain⟨xd,t⟩:=x;cases i1 with
 |@tup g vs ds hs hv=>
  cases e
  by_cases hw:HT.cQ ds.length 0 l=0/\HT.cQ ds.length ds.length h=ds.length
  .rw[AR hw.1 hw.2]at f;exact .inr (.inr ⟨g,vs,rr,aV O hs,by rw[hv.length];exact hw.1,by rw[hv.length];exact hw.2,f.one O (.tup hs hv)⟩)
  .refine .inl (.inr ⟨g,vs,rr,aV O hs,by rw[hv.length];exact hw,λp hp=>?_⟩);have c:=Ext.laid (o:=.tup (sy vs l h)) O hp;exact f _ _ _ c (.tup (gN.of au) ((wl hv).mono c.bn)) X9
 |@lst g vs ds hs hv=>
  cases e
  refine .inl (.inl ⟨g,vs,rr,O.seq hs,λp hp=>?_⟩);have c:=Ext.laid (o:=.lst (sy vs l h)) O hp;exact f _ _ _ c (.lst (fF.of au) ((wl hv).mono c.bn)) λ_=>⟨p,_,_,rr,rr,hp,au,(wl hv).mono c.bn⟩
 |str z=>
  dsimp only at e;split at e
  .rename_i hz;cases e
   exact .inr (.inl ⟨z,rr,hz,f.one O (.str _)⟩)
  simp_all
 |_=>cases e
def const_int {K:Frag}{y:Str}{i:Int}{t:Tok}(e:nsIn K mainGlobals y=some (some (.int i t))):∃u v,nsIn K mainGlobals y=some (some u)/\aD v u/\∀B,Is K B v (.int i):=⟨_,.int i,e,⟨t,rr⟩,λ_=>.int i⟩
noncomputable def ww:Value->D->Bool
 |.none,.non=>true
 |.bool a,.bl b=>a == b
 |.int i _,.int j=>decide (i=j)
 |.str i _,.str j=>decide (i=j)
 |_,_=>false
def iV:LU->LD->Bool
 |[],[]=>true
 |u::us,d::ds=>ww u d && iV us ds
 |_,_=>false
theorem ky {K:Frag}{B:Hp}:∀ {u:Value}{d:D},ww u d=true->∃v,aD v u/\Is K B v d
 |.none,.non,_=>⟨.non,rr,.non⟩
 |.bool a,.bl b,h=>by
  have:=eq_of_beq h;subst this;exact⟨.bl a,rr,.bl a⟩
 |.int i t,.int j,h=>by
  have:=xG h;subst this;exact⟨.int i,⟨t,rr⟩,.int i⟩
 |.str i t,.str j,h=>by
  have:=xG h;subst this;exact⟨.str i,⟨t,rr⟩,.str i⟩
theorem iW {K:Frag}:∀ {us:LU}{ds:LD},iV us ds=true->∃vs,L2.aL vs us/\∀B,IsL K B vs ds
 |[],[],_=>⟨[],.nil,λ_=>.nil⟩
 |u::us,d::ds,h=>by
  rw[iV,vC]at h;obtain⟨vs,r,i⟩:=iW h.2;obtain⟨v,r1,_⟩:=ky (K:=K) (B:=λ_=>none) h.1;refine⟨v::vs,.cons r1 r,λB=>?_⟩;obtain⟨O,M,c⟩:=ky h.1;have:O=v:=by have f:=r1.abs;rw[M.abs]at f;simp_all
  subst this;exact .cons c (i B)
def const_tup {K:Frag}{y:Str}{a:Addr}{od:Option Addr}{its:AV}{n:Nat}{nJ:Array (Option Value)}{ds:LD}(e:nsIn K mainGlobals y=some (some (.ref a)))
  (l:K.lookup a=some ⟨.type "tuple",od,.seq its n,nJ⟩) (h:(decide (its.size<=1000) && iV its.toList ds)=true):∃u v,nsIn K mainGlobals y=some (some u)/\aD v u/\∀B,Is K B v (.tup ds):=by
 rw[vC]at h;obtain⟨vs,r,i⟩:=iW h.2;exact⟨_,.ref a,e,rr,λB=>.tup (.inr ⟨_,its,n,l,rr,rr,le_of_lt (lt_of_le_of_lt (xG h.1) H9),r⟩) (i B)⟩
end
section
variable {X:Cx}{a b o e:Expr}{pos:Pos}{x:Str}{p:Pos}{tg:Expr}
def Ro {name:Str}{id:String}{cb bA:Pos}{op:D->D->OB}{fo fe:FE}(slot:Slot "str" name id)(g:typeOf (.builtin id)=pure (.type "method_descriptor"))
  (hm:U2 X id (λx xs H Q=>∃y,xs=[y]/\rD X.K op x y H Q)) (k:∀dx l r,op dx l=some r->∃z,dx=.str z) (ho:JE X o fo) (he:JE X e fe)
  (M:attributeBase o name X.env (eval o X.env)=eval o X.env)
  (m:((backTo bA (starEach [e] X.env)).all (λx=>!x.1) && (backToKw bA (keywordEach [] X.env)).all (λx=>x.1.isSome)
   && decide ([e].length+([]:List Keyword).length+(if([]:List Keyword).isEmpty then 0 else 1)<30))=true)
  (O:(cb.endLine == bA.line)=true) (hs:starEach [e] X.env=[(false,eval e X.env)]):
  JE X (.Call (.Attribute o name cb) [e] [] bA) (f2 op fo fe):=by
 refine PE.to (xP PySem.F.plainAttrs_str slot g hm ho (cC he dL hs) M m O hs rr) λσ H Q q=>?_;refine cX λG W=>?_;obtain⟨B,ρ,d,bb,n,r,f,q⟩:=q;refine eX f λi ex f=>?_;refine eX f λh s f=>?_;obtain⟨z,hz⟩:=k _ _ _ f;apply W;refine⟨B,ρ,i.1,i.2,n,r,ex,λv u N1 c i1 _=>?_⟩;rw[hz]at i1;cases i1
 refine⟨show "str" = "str" from rr,N1,ρ,h.1,h.2,c.nh,r.mono c.bn,s,λt H2 N2 j i2 _=>⟨t,rr,N2,.str z,h.1,d,bb,j.nh,.str z,i2,by rw[<-hz];exact f,q.into (c.trans j)⟩⟩
@[simp] noncomputable def Rp:D->Option Str
 |.str z=>some z
 |_=>none
def eC:LD->Option LS
 |[]=>some []
 |d::ds=>(Rp d).bind λz=>(eC ds).map (z :: ·)
@[simp] def Tp:eC []=some []:=rfl
@[simp] def Rq (d:D)(ds:LD):eC (d::ds)=(Rp d).bind λz=>(eC ds).map (z :: ·):=rfl
@[simp] def Tr (zs:LS):eC (zs.map D.str)=some zs:=by
 induction zs with
 |nil=>rfl
 |cons z zs M=>simp[M]
theorem iF {K:Frag}{B:Hp}:∀ {vs:LV}{ds:LD}{zs:LS}{its:LU},L2.aL vs its->IsL K B vs ds->eC ds=some zs->StrsAre its zs
 |_,_,_,_,.nil,.nil,e=>by cases e;exact .nil
 |_,_,_,_,.cons r M,.cons i O,e=>by
  refine eX e λz e1 e=>?_;refine eZ e λzs e2 e=>?_;subst e;cases i<;>simp [Rp]at e1<;>try (cases e1;done)
  cases e1
  obtain⟨t,rfl⟩:=r;exact .cons _ t (iF M O e2)
@[simp] def Ia:D->D->OB
 |.str M,.lst ds=>(eC ds).bind λzs=>if(zs.map (·.length)).sum+zs.length*M.length<=16777216 then some (.str (Txt.join M zs),false)else none
 |.str M,.tup ds=>(eC ds).bind λzs=>if(zs.map (·.length)).sum+zs.length*M.length<=16777216 then some (.str (Txt.join M zs),false)else none
 |_,_=>none
def Rr:U2 X "str.join" (λx xs H Q=>∃y,xs=[y]/\rD X.K Ia x y H Q):=by
 intro af s σ H x xs v us Q I g rs h;obtain⟨y,rfl,B,dx,m,d,bb,O,i,j,M,q⟩:=h;obtain⟨n,rfl,r1⟩:=eB rs;cases i<;>(try (simp at M))
 obtain⟨t,rfl⟩:=g;cases j<;>(try (simp at M;done))
 .rename_i h hl;refine eX M λzs c M=>?_;split at M
  .rename_i hok;cases M
   cases r1
   refine I.tupE (aV O h) λits rv f l=>?_;exact join_tuple f (by simpa using iF rv hl c) hok λt' k=>⟨.str _,H,I.tok k,⟨t',rr⟩,q.one O (.str _)⟩
  simp_all
 .rename_i h hl;refine eX M λzs c M=>?_;split at M
  .rename_i hok;cases M
   cases r1
   refine I.lisE (O.seq h) λits rv f l=>?_;exact join_list f.isList (by simpa using iF rv hl c) hok λt' k=>⟨.str _,H,I.tok k,⟨t',rr⟩,q.one O (.str _)⟩
  simp_all
def Ib (dx M:D)(r:D×Bool)(h:Ia dx M=some r):∃z,dx=.str z:=by
 cases dx<;>first|exact⟨_,rr⟩|(cases M<;>simp at h)
noncomputable def gP:LN->LD->Env->Option Env
 |[],[],ρ=>some ρ
 |i::is,d::ds,ρ=>gP is ds (ρ.set i (some (d,false)))
 |_,_,_=>none
@[simp] def Ts (ρ:Env):gP [] [] ρ=some ρ:=by rw[gP]
@[simp] def AS (i:Nat)(is:LN)(d:D)(ds:LD)(ρ:Env):gP (i::is) (d::ds) ρ=gP is ds (ρ.set i (some (d,false))):=by rw[gP]
@[simp] def Vo (d:D)(ds:LD)(ρ:Env):gP [] (d::ds) ρ=none:=by simp only[gP]
@[simp] def Vp (i:Nat)(is:LN)(ρ:Env):gP (i::is) [] ρ=none:=by simp only[gP]
@[simp] def Ic (is:LN):FG:=λd ρ=>match d with|.tup ds=>gP is ds ρ|_=>none
def l7:LN->Qa
 |[]=>Ue
 |i::is=>OC (i7 i) (l7 is)
def Ie:aH (di N (own σ ρ)) (di N (own (σ.set i (some v)) (ρ.set i (some (d,false))))):=dj λa u e q=>⟨e,λz=>q (by
 rcases wb z with⟨_,d',p⟩|⟨j,_,d',M,q2⟩
 .cases p
 .exact⟨j,d',M,q2⟩)⟩
theorem tJ {K:Frag}:∀ {is:LN}{vs:LV}{ds:LD}{B0 H0 N H:Hp}{σ:St}{ρ ρ':Env}{Q:St->Hp->Prop},cP K B0 H0 N H σ ρ->IsL K (di N (own σ ρ)) vs ds->gP is ds ρ=some ρ'->(∀M,cP K B0 H0 N H M ρ'->Q M H)->l7 is vs σ H Q
 |[],_,_,_,_,_,_,_,_,_,_,s,.nil,e,k=>by
  cases e
  exact⟨rr,k _ s⟩
 |[],_,_,_,_,_,_,_,_,_,_,_,.cons _ _,e,_=>by simp at e
 |_::_,_,_,_,_,_,_,_,_,_,_,_,.nil,e,_=>by simp at e
 |i::is,_,_,_,_,_,_,_,_,_,_,s,.cons h hs,e,k=>by
  exact⟨_,_,rr,tJ (s.bind h) (hs.mono Ie) e k⟩
theorem nQ:∀ {is:LN}{ds:LD}{ρ ρ':Env},gP is ds ρ=some ρ'->ds.length=is.length
 |[],[],_,_,_=>rr
 |_::_,_::_,_,_,e=>by rw[AS]at e;simp[nQ e]
 |[],_::_,_,_,e=>by simp at e
 |_::_,[],_,_,e=>by simp at e
def Vq {K:Frag}{is:LN}:Lo K (Ic is) (Hb K is.length (l7 is)):=by
 intro B0 H0 N H σ ρ ρ' v d Q s h e k;cases h with
 |@tup a vs ds O hl=>
  have M:=e;exact⟨a,vs,rr,aV (bw.trans s.ext.nh) O,by rw[hl.length];exact nQ M,tJ s hl M λc s'=>k _ H ⟨N,s'⟩⟩
 |_=>cases e
theorem tK {K:Frag}{n:Nat}{B H:Hp}{M:Env}{Q:St->Hp->Prop}(cl:∀i,i<n->M[i]? = some none):∀ {is:LN}{vs:LV}{ds:LD}{σ:St}{ρ c:Env},(∀i∈is,i<n)->eA K B σ ρ->IsL K B vs ds->gP is ds ρ=some c->ρ.length=σ.length->ρ.length=M.length ->
  (∀O,eA K B O c->(∀f,eA K f σ M->eA K f O M)->M.length=O.length->Q O H)->l7 is vs σ H Q
 |[],_,_,_,_,_,_,rp,.nil,e,l1,l2,k=>by
  cases e
  exact⟨rr,k _ rp (λ_ z=>z) N9⟩
 |[],_,_,_,_,_,_,_,.cons _ _,e,_,_,_=>by simp at e
 |_::_,_,_,_,_,_,_,_,.nil,e,_,_,_=>by simp at e
 |i::is,_,_,σ,ρ,_,hn,rp,.cons h hs,e,l1,l2,k=>by
  have hi:=hn i mX;have m:i<σ.length:=by
   grind
  refine⟨_,_,rr,tK cl (λj hj=>hn j (mZ _ hj)) ⟨rp.tb,λj d b q=>?_⟩ hs e (by simpa using l1) (by simpa using l2) λO r1 g l=>k _ r1 (λf z=>g f ⟨z.tb,λj d b q=>?_⟩) l⟩
  .rcases bC q with⟨rfl,pp⟩|⟨ne,pp⟩
   .simp_all
   .obtain⟨w,h1,h2⟩:=rp.at' j d b pp;simp_all
  .obtain⟨w,h1,h2⟩:=z.at' j d b q;have ne:i≠j:=λz=>by grind
   exact⟨w,by simp_all,h2⟩
def Ig {K:Frag}{n:Nat}{is:LN}(hn:∀i∈is,i<n):Mn K n (Ic is) (Hb K is.length (l7 is)):=by
 intro B H σ ρ O v d Q cl rep s h e hl k;cases h with
 |@tup a vs ds c hv=>
  have M:=e;exact⟨a,vs,rr,aV s c,by rw[hv.length];exact nQ M,tK cl hn rep hv M hl rr k⟩
 |_=>cases e
end
section
variable {prog:Program}{w:World}{A:Around}{E:QV}{s:Shared}
def AT (st:s.heap.IsTupleIter it l i)(M:s.heap.IsTuple l items)(hv:items[i]? = some v)
  (k:∀h',h'.IsTupleIter it l (i+1)->Heap.SameBut it s.heap h'->Q v { s with heap:=h' }):wpAny (model prog w) A (Builtin.SmallTypes.nextOf (.ref it)) Q E s:=by
 obtain⟨b,g1,O,d1⟩:=id st;obtain⟨c,a,_,n2,d2⟩:=M;refine wX (wpAny_callSpecial?_slot st.typeIs slot_tuple_iterator_next (wpAny_call_entry slot_tuple_iterator_next st.typeIs PySem.F.entry_tuple_iterator_next ?_ (PySem.F.args_tuple_iterator_next_1 _)));show wpAny _ _ (field _ 0>>=_) _ _ _;refine wX (wpAny_field g1 d1 rr ?_);refine wX (wpAny_field g1 d1 rr ?_);refine wX (wpAny_seqItems a d2 ?_);simp [hv,Int.toNat_natCast];refine wX (wpAny_setField g1 d1 X9 (wY ⟨v,rr,wY (k _ ?_ (vW ..))⟩));exact⟨_,Heap.get?_update_self _ g1 (Obj.isFreed_of_fields (Obj.data_mapFields d1 _)),(Obj.cls_mapFields ..).trans O,by rw[Obj.data_mapFields d1];simp[rawInt]⟩
def F0 (M:A.handled=none)(st:s.heap.IsTupleIter it l i)(O:s.heap.IsTuple l items)(hv:items[i]? = none)
  (k:∀h' x,Heap.ExtBut it s.heap h'->(∃o,h'.get? x=some o/\o.cls=.type "StopIteration")->E (.ref x) { s with heap:=h' }):wpAny (model prog w) A (Builtin.SmallTypes.nextOf (.ref it)) Q E s:=by
 obtain⟨b,g1,c,d1⟩:=id st;obtain⟨d,a,_,n2,d2⟩:=O;refine wX (wpAny_callSpecial?_slot st.typeIs slot_tuple_iterator_next (wpAny_call_entry slot_tuple_iterator_next st.typeIs PySem.F.entry_tuple_iterator_next ?_ (PySem.F.args_tuple_iterator_next_1 _)));show wpAny _ _ (field _ 0>>=_) _ _ _;refine wX (wpAny_field g1 d1 rr ?_);refine wX (wpAny_field g1 d1 rr ?_);refine wX (wpAny_seqItems a d2 ?_);simp [hv,Int.toNat_natCast];refine wX (wpAny_rule (wX (wpAny_setField g1 d1 X9 ?_)));refine wX ?_;refine wX (m:=firstArgMember _ _) (wpAny_of_eq O9 ?_);refine wpAny_newObj_type ?_ w9;refine wX (wpAny_handled ?_);first|rw[M]|rw[show A.in1.handled=none from M]
 exact wX (wY (wpAny_throw (k _ _ (((vW ..).extBut.push _).push _) ⟨_,vY _ rr,rr⟩)))
end
def kB:Bool->Heap->Addr->Addr->Nat->Prop
 |true,h,it,a,i=>h.IsListIter it a i
 |false,h,it,a,i=>h.IsTupleIter it a i
def kE:Bool->Heap->Addr->AV->Prop
 |true,h,a,items=>h.IsList a items
 |false,h,a,items=>h.IsTuple a items
def l8 (k:Bool)(K:Frag)(H:Hp)(a:Addr)(xs:LV):Prop:=match k with|true=>fF K H a xs|false=>gN K H a xs
def kB.ob (st:kB k h it a i):∃o,h.get? it=some o/\∀v,o.data≠.cell v:=by
 cases k<;>(obtain⟨o,g,_,d⟩:=st;simp_all)
def kB.upon (st:kB k h it a i)(g:∀o,h.get? it=some o->h'.get? it=some o):kB k h' it a i:=by
 cases k<;>(obtain⟨o,e,r⟩:=st;exact⟨o,g o e,r⟩)
def kE.upon (st:kE k h a items)(g:∀o,h.get? a=some o->h'.get? a=some o):kE k h' a items:=by
 cases k<;>(obtain⟨o,e,r⟩:=st;exact⟨o,g o e,r⟩)
def kE.lt (st:kE k h a items):a<h.objs.size:=by
 cases k<;>(obtain⟨o,e,r⟩:=st;exact vX e)
theorem l8.same {k:Bool}{K:Frag}{H H':Hp}{a:Addr}{xs:LV}(h:l8 k K H a xs)(e:aH H H'):l8 k K H' a xs:=by
 cases k
 .exact aV e h
 .exact e.seq h
def l8.vals (I:Inv X af σ H s)(h:l8 k X.K H a xs):∃its:LU,aL xs its/\kE k s.heap a its.toArray/\xs.length<=sizeLine:=by
 cases k
 .exact I.tuple h
 .refine I.lisE h λits r p z=>?_;exact⟨its,r,p.isList,z⟩
def l8.inj (I:Inv X af σ H s)(h:l8 k X.K H a xs)(h':l8 k X.K H a ys):xs=ys:=by
 cases k
 .exact I.tuple_inj h h'
 .exact I.list_inj h h'
section
variable {prog:Program}{w:World}{A:Around}{E:QV}{s:Shared}
def eF (st:kB k s.heap it l i)(M:kE k s.heap l items)(hv:items[i]? = some v)
  (q:∀h',kB k h' it l (i+1)->Heap.SameBut it s.heap h'->Q v { s with heap:=h' }):wpAny (model prog w) A (Builtin.SmallTypes.nextOf (.ref it)) Q E s:=by
 cases k
 .exact AT st M hv q
 .exact wpAny_nextOf_list_item st M hv q
def iG (M:A.handled=none)(st:kB k s.heap it l i)(O:kE k s.heap l items)(hv:items[i]? = none)
  (q:∀h' x,Heap.ExtBut it s.heap h'->(∃o,h'.get? x=some o/\o.cls=.type "StopIteration")->E (.ref x) { s with heap:=h' }):wpAny (model prog w) A (Builtin.SmallTypes.nextOf (.ref it)) Q E s:=by
 cases k
 .exact F0 M st O hv q
 .exact wpAny_nextOf_list_end M st O hv q
end
noncomputable def M9 (k:Bool)(l:Addr):Obj:={ cls:=.type (if k=true then "list_iterator" else "tuple_iterator"),data:=.fields #[.ref l,.int 0 0] }
def m8 (M:kE k s.heap l items)
  (q:Q (.ref s.z) { s with heap:=s.heap.push (M9 k l) }):wpAny (model prog w) A (pyIter (.ref l)) Q E s:=by
 cases k
 .exact wpAny_pyIter_tuple M q
 .exact wpAny_pyIter_list M q
def kE.push (st:kE k h a items)(o:Obj):kE k (h.push o) a items:=st.upon λ_ e=>vZ _ e
section
variable (k1 k2:Bool) (h:Heap) (l1 l2:Addr)
abbrev zA:Heap:=h.push (M9 k1 l1)
abbrev zB:Heap:=(zA k1 h l1).push (M9 k2 l2)
abbrev zC:Heap:=(zB k1 k2 h l1 l2).push { cls:=.type "tuple",data:=.seq #[.ref h.objs.size,.ref (zA k1 h l1).objs.size] }
abbrev zD:Heap:=(zC k1 k2 h l1 l2).push { cls:=.type "tuple",data:=.seq #[.none,.none] }
abbrev zE:Heap:=(zD k1 k2 h l1 l2).push { cls:=.type "zip",data:=.fields #[.none,.bool false,.bool false,.ref (zB k1 k2 h l1 l2).objs.size,.ref (zC k1 k2 h l1 l2).objs.size] }
end
def AU (k1 k2:Bool)(l1 l2:Addr)(xs ys:AV):Meets (Builtin.«zip.__new__» ⟨[.type "zip",.ref l1,.ref l2],[]⟩) (λ_ R s=>kE k1 s.heap l1 xs/\kE k2 s.heap l2 ys /\
   R (.ok (.ret (.ref (zD k1 k2 s.heap l1 l2).objs.size))) { s with heap:=zE k1 k2 s.heap l1 l2 }):=
 .of_wp λprog w A R s hs=>by
  obtain⟨hp,g,d,tk,os⟩:=s;obtain⟨O,q2,hs⟩:=hs;have M:=sub_zip;have a:=O;have p2:kE k2 (Shared.heap ⟨hp.push (M9 k1 l1),g,d,tk,os⟩) l2 ys:=kE.push q2 _;wp_walk using m8 a,m8 p2;exact⟨_,rr,hs⟩
section
variable {prog:Program}{w:World}{A:Around}{E:QV}{s:Shared}
def Cw (i:kE k1 s.heap l1 xs)(q2:kE k2 s.heap l2 ys)
  (q:∀h',IsZip h' (s.z+4) (s.z+2) (s.z+3) .none->IsPair h' (s.z+2) (.ref s.z) (.ref (s.z+1))->IsPair h' (s.z+3) .none .none ->
   kB k1 h' s.z l1 0->kB k2 h' (s.z+1) l2 0->(∀c o,s.heap.get? c=some o->h'.get? c=some o)->Q (.ref (s.z+4)) { s with heap:=h' }):
  wpAny (model prog w) A (call (.type "zip") [.ref l1,.ref l2]) Q E s:=by
 refine callType_new PySem.F.called_zip H9 (PySem.F.typeCall_zip_2 _ _) (PySem.F.newCall_zip_2 _ _) (λobj=>PySem.F.args_object_init_3 obj _ _) PySem.F.entry_zip_new (AU k1 k2 l1 l2 xs ys) ⟨i,q2,?_⟩;have n1:(zA k1 s.heap l1).objs.size=s.z+1:=Heap.size_push ..;have n2:(zB k1 k2 s.heap l1 l2).objs.size=s.z+2:=by rw[Heap.size_push,n1]
 have n3:(zC k1 k2 s.heap l1 l2).objs.size=s.z+3:=by rw[Heap.size_push,n2]
 have n4:(zD k1 k2 s.heap l1 l2).objs.size=s.z+4:=by rw[Heap.size_push,n3]
 have O:∀ {c o},(zD k1 k2 s.heap l1 l2).get? c=some o->(zE k1 k2 s.heap l1 l2).get? c=some o:=λe=>vZ _ e;have a:∀ {c o},(zC k1 k2 s.heap l1 l2).get? c=some o->(zE k1 k2 s.heap l1 l2).get? c=some o:=λe=>O (vZ _ e);have b:∀ {c o},(zB k1 k2 s.heap l1 l2).get? c=some o->(zE k1 k2 s.heap l1 l2).get? c=some o:=λe=>a (vZ _ e);have d:∀ {c o},(zA k1 s.heap l1).get? c=some o->(zE k1 k2 s.heap l1 l2).get? c=some o:=λe=>b (vZ _ e);have j:∀ {c o},s.heap.get? c=some o->(zE k1 k2 s.heap l1 l2).get? c=some o:=λe=>d (vZ _ e);have M:(zE k1 k2 s.heap l1 l2).get? _=some _:=vY _ rr;have f:=O (vY _ rr);have g:=a (vY _ rr);have h:=b (vY _ (by cases k2<;>rfl))
 have g1:=d (vY _ (by cases k1<;>rfl))
 rw[n2,n3,n4]at M;rw[n1,n2]at g;rw[n3]at f;rw[n1]at h;show _/\_;rw[n4];refine⟨⟨_,M,rr⟩,q _ M g f ?_ ?_ λc o e=>j e⟩
 .cases k1<;>exact⟨_,g1,rr,rr⟩
 .cases k2<;>exact⟨_,h,rr,rr⟩
structure ZApart (z TI TO i1 i2:Addr):Prop where
 tz:TI≠z
 oz:TO≠z
 az:i1≠z
 bz:i2≠z
 oa:TO≠i1
 ob:TO≠i2
 to:TI≠TO
 ta:TI≠i1
 tb:TI≠i2
 ab:i1≠i2
def yu {k1 k2:Bool}{z TI TO i1 i2 l1 l2:Addr}{j:Nat}{xs ys:AV}{x y a b:Value}{Q:QV}(D:ZApart z TI TO i1 i2)(m1:l1≠z/\l1≠TO/\l1≠i1)(m2:l2≠z/\l2≠TO/\l2≠i1/\l2≠i2)
  (hz:IsZip s.heap z TI TO .none) (U:IsPair s.heap TI (.ref i1) (.ref i2)) (V:IsPair s.heap TO a b) (W:kB k1 s.heap i1 l1 j) (X:kB k2 s.heap i2 l2 j) (Y:kE k1 s.heap l1 xs) (q2:kE k2 s.heap l2 ys) (hx:xs[j]? = some x) (hy:ys[j]? = some y)
  (q:∀h',IsZip h' z TI TO (rawInt s.z)->IsPair h' TO x y->kB k1 h' i1 l1 (j+1)->kB k2 h' i2 l2 (j+1)->IsPair h' s.z x y->h'.objs.size=s.z+1 ->
   (∀c o,c≠z->c≠TO->c≠i1->c≠i2->s.heap.get? c=some o->h'.get? c=some o)->Q (.ref s.z) { s with heap:=h' }):
  wpAny (model prog w) A (Builtin.«zip.__next__» ⟨[.ref z],[]⟩) (λdJ s'=>∃v,dJ=.done (.ret v)/\Q v s') E s:=by
 show wpAny _ _ (field (.ref z) 2>>=_) _ _ s;refine wX (wpAny_field hz rr (x:=.bool false) rr ?_);show wpAny _ _ (field (.ref z) 3>>=_) _ _ s;refine wX (wpAny_field hz rr (x:=.ref TI) rr (wX (wpAny_seqItems U rr ?_)));refine wX ?_;unfold Builtin.SmallTypes.ownedTupleIsFree;refine wX (wpAny_field hz rr (x:=.none) rr (wY ?_));simp only[if_true];refine wX (wpAny_rule (wX (wpAny_field hz rr (x:=.ref TO) rr (wX (wpAny_setField_rec hz X9 λg1 f s1=>?_)))));replace f:IsZip g1 z TI TO .ellipsis:=f;refine wX ?_;refine wX (wX (wpAny_onRaise ?_));refine wX (eF (s:={ s with heap:=g1 }) (W.upon λo e=>s1.extBut _ _ D.az e) (Y.upon λo e=>s1.extBut _ _ m1.1 e) hx λZ F s2=>wY ?_);have T:IsPair Z TO a b:=s2.extBut _ _ D.oa (s1.extBut _ _ D.oz V);refine wX (wpAny_seqItems T rr (wX (wpAny_updateSeq_pair T λG g u=>?_)));replace g:IsPair G TO x b:=g;refine wX (wpAny_letGo (wY (wX (wX (wpAny_onRaise ?_)))));have h:∀ {c o},c≠z->c≠TO->c≠i1->s.heap.get? c=some o->G.get? c=some o:=λO c2 c3 e=>u.extBut _ _ c2 (s2.extBut _ _ c3 (s1.extBut _ _ O e));refine wX (eF (s:={ s with heap:=G }) (X.upon λo e=>h D.bz D.ob.symm D.ab.symm e) (q2.upon λo e=>h m2.1 m2.2.1 m2.2.2.1 e) hy λg4 H i=>wY ?_);have k:IsPair g4 TO x b:=i.extBut _ _ D.ob g;refine wX (wpAny_seqItems k rr (wX (wpAny_updateSeq_pair k λM d l=>?_)));replace d:IsPair M TO x y:=d;refine wX (wpAny_letGo (wY (wY (wX (wpAny_seqItems d rr (wX (wpAny_newTuple ?_)))))));have sz:M.objs.size=s.z:=by rw[l.1,i.1,u.1,s2.1,s1.1]
 have I:∀c o,c≠z->c≠TO->c≠i1->c≠i2->s.heap.get? c=some o->M.get? c=some o:=λc o O c2 c3 J e=>l.extBut _ _ c2 (i.extBut _ _ J (h O c2 c3 e));have m:IsZip M z TI TO .ellipsis:=l.extBut _ _ D.oz.symm (i.extBut _ _ D.bz.symm (u.extBut _ _ D.oz.symm (s2.extBut _ _ D.az.symm f)));have K:kB k1 M i1 l1 (j+1):=F.upon λo e=>l.extBut _ _ D.oa.symm (i.extBut _ _ D.ab (u.extBut _ _ D.oa.symm e));have L:kB k2 M i2 l2 (j+1):=H.upon λo e=>l.extBut _ _ D.ob.symm e;have n:z<M.objs.size:=vX m;refine wX ?_;unfold Builtin.SmallTypes.ownedTupleHandOut;have N:IsZip (M.push { cls:=.type "tuple",data:=.seq #[x,y] }) z TI TO .ellipsis:=vZ _ m;refine wX (wpAny_setField_rec N X9 λg7 P R=>?_);refine wpAny_setField_rec P X9 λB p S=>?_;have C:∀c o,c≠z->M.get? c=some o->B.get? c=some o:=λc o O e=>S.extBut _ _ O (R.extBut _ _ O (vZ _ e));have r:IsPair B M.objs.size x y:=S.extBut _ _ (ne_of_gt n) (R.extBut _ _ (ne_of_gt n) (vY _ rr));have t:B.objs.size=M.objs.size+1:=by rw[S.1,R.1,Heap.size_push]
 rw[sz]at p r t;refine wY ⟨_,rr,?_⟩;show Q (.ref M.objs.size) _;rw[sz];exact q B p (C _ _ D.oz d) (K.upon λo e=>C _ o D.az e) (L.upon λo e=>C _ o D.bz e) r t λc o O c2 c3 J e=>C c o O (I c o O c2 c3 J e)
end
section
variable {prog:Program}{w:World}{A:Around}{E:QV}{s:Shared}
def Cy {k1 k2:Bool}{z TI TO i1 i2 l1 l2:Addr}{j:Nat}{xs ys:AV}{a b:Value}{Q:PySem.Fin->Shared->Prop}(r:A.handled=none)(D:ZApart z TI TO i1 i2)(m1:l1≠z/\l1≠TO/\l1≠i1)(m2:l2≠z/\l2≠TO/\l2≠i1/\l2≠i2)
  (hz:IsZip s.heap z TI TO .none) (F:IsPair s.heap TI (.ref i1) (.ref i2)) (G:IsPair s.heap TO a b) (t:kB k1 s.heap i1 l1 j) (H:kB k2 s.heap i2 l2 j) (u:kE k1 s.heap l1 xs) (q2:kE k2 s.heap l2 ys) (he:xs[j]? = none\/ys[j]? = none)
  (q:∀h' x,(∀c o,c≠z->c≠TO->c≠i1->c≠i2->s.heap.get? c=some o->h'.get? c=some o)->(∃o,h'.get? x=some o/\o.cls=.type "StopIteration")->E (.ref x) { s with heap:=h' }):
  wpAny (model prog w) A (Builtin.«zip.__next__» ⟨[.ref z],[]⟩) Q E s:=by
 show wpAny _ _ (field (.ref z) 2>>=_) _ _ s;refine wX (wpAny_field hz rr (x:=.bool false) rr ?_);refine wX (wpAny_field hz rr (x:=.ref TI) rr (wX (wpAny_seqItems F rr ?_)));refine wX ?_;refine wX (wpAny_field hz rr (x:=.none) rr (wY ?_));simp only[if_true];refine wX (wpAny_rule (wX (wpAny_field hz rr (x:=.ref TO) rr (wX (wpAny_setField_rec hz X9 λg1 d s1=>?_)))));refine wX ?_;refine wX (wX (wpAny_onRaise ?_));cases hx:xs[j]? with
 |none=>
  refine wX (iG (s:={ s with heap:=g1 }) r (t.upon λo e=>s1.extBut _ _ D.az e) (u.upon λo e=>s1.extBut _ _ m1.1 e) hx λh x s2 hX=>?_);obtain⟨i,k,l⟩:=hX;have m:IsZip h z TI TO .ellipsis:=s2 _ _ D.az.symm d;have n:x≠z:=λI=>by lia
  exact wpAny_setField_rec m X9 λg _ f=>q g x (λc o M _ c3 _ e=>f.extBut _ _ M (s2 _ _ c3 (s1.extBut _ _ M e))) ⟨i,f.extBut _ _ n k,l⟩
 |some v=>
  have hy:ys[j]? = none:=by
   lia
  refine wX (eF (s:={ s with heap:=g1 }) (t.upon λo e=>s1.extBut _ _ D.az e) (u.upon λo e=>s1.extBut _ _ m1.1 e) hx λh J s2=>wY ?_);have y:IsPair h TO a b:=s2.extBut _ _ D.oa (s1.extBut _ _ D.oz G);refine wX (wpAny_seqItems y rr (wX (wpAny_updateSeq_pair y λg K f=>?_)));refine wX (wpAny_letGo (wY (wX (wX (wpAny_onRaise ?_)))));have O:∀ {c o},c≠z->c≠TO->c≠i1->s.heap.get? c=some o->g.get? c=some o:=λM c2 c3 e=>f.extBut _ _ c2 (s2.extBut _ _ c3 (s1.extBut _ _ M e));refine wX (iG (s:={ s with heap:=g }) r (H.upon λo e=>O D.bz D.ob.symm D.ab.symm e) (q2.upon λo e=>O m2.1 m2.2.1 m2.2.2.1 e) hy λL x B hX=>?_);obtain⟨i,k,l⟩:=hX;have p:IsZip L z TI TO .ellipsis:=B _ _ D.bz.symm (f.extBut _ _ D.oz.symm (s2.extBut _ _ D.az.symm d));have n:x≠z:=λI=>by lia
  exact wpAny_setField_rec p X9 λN _ C=>q N x (λc o M c2 c3 P e=>C.extBut _ _ M (B _ _ P (O M c2 c3 e))) ⟨i,C.extBut _ _ n k,l⟩
end
def kF {X:Cx}{af:AO}{σ:St}{H:Hp}{s:Shared}{h':Heap}{t':Nat}{ch:List Addr}(I:Inv X af σ H s)(f:∀b∈ch,lw X af H b)(k:∀b o,b∉ch->s.heap.get? b=some o->h'.get? b=some o):Inv X af σ H { s with heap:=h',toks:=t' }:=by
 have M:∀b u,H b=some u->b∉ch:=λb u e z=>by rw[(f b z).1]at e;cases e
 refine I.step (λb hb=>?_) (λb o _ _ hc e _=>k b o hc e) (λb o _ _ hc e _=>⟨o.slots,k b o hc e⟩) (λ_ _ _ _ n=>n)
  (λb o hc e=>⟨o,k b o hc e⟩) (λ_ _ e=>e) (λ_ _ _ e=>e) (λ_ _ e=>e) (λm hm=>?_) (λb u e=>?_) I.bare
 .obtain⟨_,f1,_,O,a,d⟩:=f b hb;exact⟨O,f1,a,d⟩
 .obtain⟨o,es,g,ho,r⟩:=hm;exact⟨o,es,g,k _ o (λz=>(f _ z).2.1 rr) ho,r⟩
 .refine(I.hok b u e).stay (λc v hc q=>k c v ?_ q) (λ_ q=>q) (λ_ _ q=>q) λ_ _ _ q=>q;grind
def Cz {X:Cx}{af:AO}{σ:St}{H:Hp}{s:Shared}{h':Heap}{t':Nat}{ch:List Addr}{a:Addr}{ob:HO}(I:Inv X af σ H s)(f:∀b∈ch,lw X af H b)(k:∀b o,b∉ch->s.heap.get? b=some o->h'.get? b=some o)(ha:s.z<=a)
  (new:bj X.prog X.w (upd H a ob) h' a ob):Inv X af σ (upd H a ob) { s with heap:=h',toks:=t' }:=by
 have hn:H a=none:=I.hok.fresh ha;have M:∀b u,H b=some u->b∉ch:=λb u e z=>by rw[(f b z).1]at e;cases e
 have O:∀b o,s.heap.get? b=some o->b≠a:=λb o e=>vS (vQ (vX e) ha);refine I.step (ch:=ch) (λb hb=>?_) (λb o _ _ hc e _=>k b o hc e) (λb o _ _ hc e _=>⟨o.slots,k b o hc e⟩) (λb o _ e n=>by rw[a6 (O b o e)];exact n)
  (λb o hc e=>⟨o,k b o hc e⟩) (λb xs e=>by rw[a6 (aN e hn)];exact e) (λb o u e=>by rw[a6 (aN e hn)];exact e) (λb ps e=>by rw[a6 (aN e hn)];exact e) (λm hm=>?_) (λb u e=>?_) I.bare
 .obtain⟨_,f1,_,d,g,h⟩:=f b hb;exact⟨d,f1,g,h⟩
 .obtain⟨o,es,i,ho,r⟩:=hm;exact⟨o,es,i,k _ o (λz=>(f _ z).2.1 rr) ho,r⟩
 .by_cases hb:b=a
  .simp_all[au]
  .rw[a6 hb]at e;refine(I.hok b u e).stay (λc v hc q=>k c v ?_ q) (λc q=>?_) (λc xs q=>?_) λc o xs q=>?_
   .grind
   .rw[a6 (aN q hn)];exact q
   .rw[a6 (aN q hn)];exact q
   .rw[a6 (aN q hn)];exact q
noncomputable def Zv (K:Frag)(k1 k2:Bool)(M O:Addr):It:=
  ⟨λi H=>∃xs ys x y,l8 k1 K H M xs/\l8 k2 K H O ys/\xs[i]? = some x/\ys[i]? = some y,
   λi H v H'=>∃T x y,v=.ref T/\H T=none/\H'=upd H T (.tup [x,y])/\(∀xs,l8 k1 K H M xs->xs[i]? = some x)/\(∀ys,l8 k2 K H O ys->ys[i]? = some y),
   λi H=>∃xs ys,l8 k1 K H M xs/\l8 k2 K H O ys/\(xs.length<=i\/ys.length<=i)⟩
def Ih {P:Program}{w:World}{K:Frag}{es:QD}{C:Nat}{pt:Pos}{k1 k2:Bool}{l g z TI TO i1 i2:Addr}(D:ZApart z TI TO i1 i2)(m1:l≠z/\l≠TO/\l≠i1)(m2:g≠z/\g≠TO/\g≠i1/\g≠i2):
  Turn P w K (.Tuple es C pt) (Zv K k1 k2 l g) [z,TI,TO,i1,i2] z (λi h=>IsZip h z TI TO .none/\IsPair h TI (.ref i1) (.ref i2)/\(∃a b,IsPair h TO a b)/\kB k1 h i1 l i/\kB k2 h i2 g i) where
 mem:=X9
 obj:=λi h st b hb=>by
  obtain⟨hz,f,⟨a,c,j⟩,O,d⟩:=st;simp at hb;rcases hb with rfl|rfl|rfl|rfl|rfl
  .simp_all
  .simp_all
  .simp_all
  .exact O.ob
  .exact d.ob
 keep:=λi h h' st k=>by
  obtain⟨hz,f,⟨a,c,j⟩,O,d⟩:=st;exact⟨k z X9 _ hz,k TI X9 _ f,⟨a,c,k TO X9 _ j⟩,O.upon λo e=>k i1 X9 o e,d.upon λo e=>k i2 X9 o e⟩
 item:=by
  intro X p hw r hc i af s σ H E I hf st t;subst p hw r;refine cX λW Y=>?_;obtain⟨hz,f,⟨a,c,j⟩,O,d⟩:=st;obtain⟨xs,ys,x,y,n,q2,hx,hy⟩:=t;obtain⟨its,r1,A,F⟩:=n.vals I;obtain⟨G,B,p2,J⟩:=q2.vals I;obtain⟨u,hu,ru⟩:=r1.get hx;obtain⟨v,hv,rv⟩:=B.get hy;apply Y;clear Y;have m:s.TypeIs (.ref z) "zip":=⟨_,hz,rr⟩;have fresh:H s.z=none:=I.hok.fresh (vT _);have lt:∀ {c o},s.heap.get? c=some o->c≠s.z:=λe=>vS (vX e);have l1:i1≠s.z:=by obtain⟨o,e,_⟩:=O.ob;exact lt e
  have l2:i2≠s.z:=by obtain⟨o,e,_⟩:=d.ob;exact lt e
  unfold pyNext;refine wX (wpAny_attempt (wpAny_callSpecial?_slot (name:=Str.ofString "__next__") m slot_zip_next (wpAny_call_entry slot_zip_next m entry_zip_next (yu D m1 m2 hz f j O d A p2 (by simpa using hu) (by simpa using hv) λh' b1 b2 b3 b4 L V bk=>wY ?_) (args_zip_next_1 _))));refine⟨_,rr,wpAny_letOwnedTupleGo_zip (s:={ s with heap:=h' }) b1 λh2 N s2=>?_⟩;have M:Heap.SameBut z h' h2:=s2;have Q:∀b o,b∉[z,TI,TO,i1,i2]->s.heap.get? b=some o->h2.get? b=some o:=λb o hb e=>
   M.extBut _ _ (λq=>hb (by simp[q])) (bk b o (λq=>hb (by simp[q])) (λq=>hb (by simp[q])) (λq=>hb (by simp[q])) (λq=>hb (by simp[q])) e)
  have R:s.z≠z:=(lt hz).symm;have new:bj X.prog X.w (upd H s.z (.tup [x,y])) h2 s.z (.tup [x,y]):=⟨by show 2<=sizeLine;decide,[u,v],.cons ru (.cons rv .nil),⟨_,M.extBut _ _ R L,rr,_,rr⟩⟩;refine⟨.ref s.z,upd H s.z (.tup [x,y]),?_,rr,⟨_,x,y,rr,fresh,rr,λzs hq=>by rw[l8.inj I hq n];exact hx,λzs hq=>by rw[l8.inj I hq q2];exact hy⟩,?_,λb hb=>?_⟩
  .exact Cz (s:=s) (t':=s.toks) I hf Q (vT _) new
  .exact⟨N,M.extBut _ _ D.tz (bk _ _ D.tz D.to D.ta D.tb f),⟨_,_,M.extBut _ _ D.oz b2⟩,b3.upon λo e=>M.extBut _ _ D.az e,b4.upon λo e=>M.extBut _ _ D.bz e⟩
  .have S:b≠s.z:=by
    grind
   rw[a6 S];exact(hf b hb).1
 done:=by
  intro X p hw r hc i af s σ H E I hf st t;subst p hw r;refine cX λW Y=>?_;obtain⟨hz,f,⟨a,c,j⟩,O,d⟩:=st;obtain⟨xs,ys,n,q2,hl⟩:=t;obtain⟨its,r1,A,F⟩:=n.vals I;obtain⟨G,B,p2,J⟩:=q2.vals I;apply Y;clear Y;have m:s.TypeIs (.ref z) "zip":=⟨_,hz,rr⟩;have n1:=r1.length;have n2:=B.length;unfold pyNext;refine wX (wpAny_attempt (wpAny_callSpecial?_slot (name:=Str.ofString "__next__") m slot_zip_next (wpAny_call_entry slot_zip_next m entry_zip_next (Cy (I.ok.hd hc) D m1 m2 hz f j O d A p2 (hl.imp (λq=>by simp;lia) λq=>by simp;lia) λh' x hk hX=>?_) (args_zip_next_1 _))));obtain⟨o,U,co⟩:=hX;refine wX (wpAny_isInstance (T:="StopIteration") (b:=true) ⟨o,U,co⟩ isSubtype_stop (wY ⟨rr,?_⟩));exact kF (t':=s.toks) I hf λb o hb e=>hk b o (λq=>hb (by simp[q])) (λq=>hb (by simp[q])) (λq=>hb (by simp[q])) (λq=>hb (by simp[q])) e
 self:=λ_ _ _ _ _ st h=>wpAny_pyIter_zip st.1 h
section
variable {X:Cx}{a b e:Expr}{pos:Pos}{p:Pos}
def OQ:bootBuiltins "zip" = some (.type "zip"):=S9
def Vr (K:Frag)(ta:TA):TI:=λσ H R=>ta σ H λvs M=>∃(k1 k2:Bool)(l1 l2:Addr)(xs ys:LV),vs=[.ref l1,.ref l2]/\l8 k1 K M l1 xs/\l8 k2 K M l2 ys/\R (Zv K k1 k2 l1 l2) M
def Rt {es:QD}{k:Nat}{pt:Pos}{ta:TA}(m:Gl X "zip")(hm:X.mg "zip" = none)(ha:PA X [a,b] ta)(hs:starEach [a,b] X.env=[(false,eval a X.env),(false,eval b X.env)]:=by rfl)(f:starEach [b] X.env=[(false,eval b X.env)]:=by rfl):
  PI X (.Tuple es k pt) (.Call (.Name "zip" p) [a,b] [] pos) (Vr X.K ta):=by
 intro af s σ H R I h;refine Call_ (eE I m hm OQ (PyProof.Rows.callWith_type1 (bD (ha _ _ s σ H _ I h) λus s1 ⟨vs,o,c,r1,r⟩=>?_) (by rw[hs,f]) (by rw[f];rfl)));obtain⟨k1,k2,l1,l2,xs,ys,rfl,h1,h2,q⟩:=r;obtain⟨x,y,rfl,t,d⟩:=r1.two;cases t
 cases d
 obtain⟨its,z,g,A⟩:=h1.vals c;obtain⟨B,C,p2,E⟩:=h2.vals c;have GS:=g.lt;have M:=p2.lt;refine Cw g p2 λh' i c2 c3 u v w=>?_;have D:ZApart (s1.z+4) (s1.z+2) (s1.z+3) s1.z (s1.z+1):=by
  constructor<;>(simp)
 have O:∀ {l:Addr}(n:Nat),l<s1.z->l≠s1.z+n:=λn hl=>vS (vQ hl (Nat.le_add_right _ n));refine wpAny_pyIter_zip i ⟨s1.z+4,[s1.z+4,s1.z+2,s1.z+3,s1.z,s1.z+1],_,_,o,rr,c.kept w,
  Ih D ⟨O 4 GS,O 3 GS,O 0 GS⟩ ⟨O 4 M,O 3 M,O 0 M,O 1 M⟩,⟨i,c2,⟨_,_,c3⟩,u,v⟩,λb hb=>?_,q⟩
 have j:s1.z<=b:=by
  grind
 exact c.fpOk j (c.hok.fresh j)
noncomputable def gL (xs ys:LD):LD:=List.zipWith (λx y=>.tup [x,y]) xs ys
@[simp] def F3 (fa M:FE):FA:=λρ=>(fa ρ).bind λx=>(M ρ).bind λy=>(fj x.1).bind λxs=>(fj y.1).map λys=>gL xs ys
def yv {K:Frag}{B:Hp}{v:V}{d:D}{ds:LD}(h:Is K B v d)(e:fj d=some ds):∃k a vs,v=.ref a/\l8 k K B a vs/\IsL K B vs ds:=by
 cases h with
 |tup M hl=>cases e;exact⟨false,_,_,rr,M,hl⟩
 |lst M hl=>cases e;exact⟨true,_,_,rr,M,hl⟩
 |_=>cases e
def Ru {H s}(I:Inv X af σ H s)(h1:l8 k1 X.K N l1 vs)(i1:IsL X.K N vs ds)(h2:l8 k2 X.K N l2 ws)(i2:IsL X.K N ws es):nO X.K (Zv X.K k1 k2 l1 l2) N (gL ds es):=by
 intro i H' M;have n1:=i1.length;have n2:=i2.length;refine⟨λd ed=>?_,λhl=>⟨vs,ws,h1.same M,h2.same M,?_⟩⟩
 .unfold gL at ed;rw[List.getElem?_zipWith]at ed;cases e1:ds[i]? with
  |none=>rw[e1]at ed;simp at ed
  |some x=>
   cases e2:es[i]? with
   |none=>rw[e1,e2]at ed;simp at ed
   |some y=>
    rw[e1,e2]at ed;simp at ed;subst ed;obtain⟨v,ev,iv⟩:=i1.get e1;obtain⟨w,c,h⟩:=i2.get e2;refine⟨⟨vs,ws,v,w,h1.same M,h2.same M,ev,c⟩,λr H2 hy=>?_⟩;obtain⟨T,k,l,rfl,j,rfl,f1,f2⟩:=hy;have f:=f1 vs (h1.same M);have g:=f2 ws (h2.same M);rw[ev]at f;cases f;rw[c]at g;cases g;have O:=Ext.laid (o:=.tup [v,w]) M j;exact⟨_,O,.tup (gN.of au) (.cons (iv.mono O.bn) (.cons (h.mono O.bn) .nil))⟩
 grind[gL]
def Rv {es:QD}{h:Nat}{pt:Pos}{fa g:FE}(hm:X.mg "zip" = none)(ha:JE X a fa)(hb:JE X b g)(i:Gl X "zip")(hs:starEach [a,b] X.env=[(false,eval a X.env),(false,eval b X.env)])(O:starEach [b] X.env=[(false,eval b X.env)]):
  JI X (.Tuple es h pt) (.Call (.Name "zip" p) [a,b] [] pos) (F3 fa g):=by
 intro af s σ H R I q;refine Rt i hm (eV ha (eV hb l5 O) (by rw[hs,O])) hs O _ s σ H R I ?_;refine cX λG K=>?_;obtain⟨B,ρ,ds,j,r,M,q⟩:=q;refine eX M λk ex M=>?_;refine eX M λl m M=>?_;refine eX M λxs n M=>?_;refine eZ M λys c M=>?_;apply K;subst M;refine⟨B,ρ,[k.1,l.1],j,r,by simp[ex,m],λvs o N1 d i1=>?_⟩;cases i1 with
 |cons t f=>
  cases f with
  |cons f u=>
   cases u
   obtain⟨k1,l1,us,rfl,s1,m1⟩:=yv t n;obtain⟨k2,l2,ws,rfl,s2,m2⟩:=yv f c;exact⟨k1,k2,l1,l2,us,ws,rr,s1.same d.nh,s2.same d.nh,q _ o N1 d (Ru I s1 m1 s2 m2)⟩
end
noncomputable def unown1 (ρ:Env)(i:Nat):Env:=match ρ[i]? with
 |some (some (d,true))=>ρ.set i (some (d,false))
 |_=>ρ
def cP.unown1 {K:Frag}{B0 H0 N H:Hp}{σ:St}{ρ:Env}(s:cP K B0 H0 N H σ ρ)(i:Nat):cP K B0 H0 N H σ (unown1 ρ i):=by
 unfold DL.unown1;split
 .rename_i d hd;obtain⟨a,ob,h1,h2,h3,h4⟩:=s.ow i d hd;have get:∀ {j:Nat}{e:D}{b:Bool},(ρ.set i (some (d,false)))[j]? = some (some (e,b))->(i=j/\e=d/\b=false)\/(i≠j/\ρ[j]? = some _):=λq=>by
   rcases bC q with⟨z,p⟩|⟨z,p⟩
   .cases p;exact .inl ⟨z,rr,rr⟩
   .exact .inr ⟨z,p⟩
  have o:∀c,own σ (ρ.set i (some (d,false))) c->own σ ρ c/\c≠a:=λc ⟨j,e,O,q2⟩=>by
   rcases get O with⟨_,_,z⟩|⟨ne,q⟩
   .cases z
   .exact⟨⟨j,e,q,q2⟩,λz=>by subst z;exact ne (s.inj i j _ _ _ hd q h1 q2)⟩
  have c:aH (di N (own σ ρ)) _:=dj λb u e q=>⟨e,λz=>q (o b z).1⟩;have g:=λz=>(o a z).2 rr;refine⟨s.bh,s.tb,s.ext,by rw[length_set];exact s.len,λj e q=>?_,λj e q=>?_,λj k b e f q M h l=>?_⟩
  .rcases get q with⟨rfl,rfl,_⟩|⟨_,q⟩
   .exact⟨_,h1,(h4.mono c).is (by rw[ci g];exact h2)⟩
   .obtain⟨v,k1,k2⟩:=s.sh j e q;exact⟨v,k1,k2.mono c⟩
  .rcases get q with⟨_,_,z⟩|⟨_,q⟩
   .cases z
   .obtain⟨m,o',k1,k2,k3,k4⟩:=s.ow j e q;exact⟨m,o',k1,k2,k3,k4.mono c⟩
  .rcases get q with⟨_,_,z⟩|⟨_,q⟩
   .cases z
   .rcases get M with⟨_,_,z⟩|⟨_,M⟩
    .cases z
    .exact s.inj j k b e f q M h l
 .exact s
@[simp] noncomputable def Zw (is:LN)(g:FS):FS:=λρ=>g (is.foldl unown1 ρ)
theorem cP.unowns {K:Frag}{B0 H0 N H:Hp}{σ:St}:∀(is:LN){ρ:Env},cP K B0 H0 N H σ ρ->cP K B0 H0 N H σ (is.foldl DL.unown1 ρ)
 |[],_,s=>s
 |i::is,_,s=>cP.unowns is (s.unown1 i)
def Rw {K:Frag}{is:LN}{g:FS}{E:Ends}{σ:St}{H:Hp}(q:nH K (Zw is g) E σ H):nH K g E σ H:=by
 obtain⟨B0,H0,ρ,r,⟨N,s⟩,e,p⟩:=q;exact⟨B0,H0,_,r,⟨N,s.unowns is⟩,e,p⟩
def Vs {X:Cx}{st:Stmt}{g:FS}(is:LN)(h:JS X st g):JS X st (Zw is g):=PS.to h λ_ _ _ q=>Rw q
@[simp] def OR:FS:=λρ=>some (.ct ρ)
@[simp] def qi:FS:=λ_=>none
section
variable {X:Cx}{pos:Pos}
def MA:JS X (.Continue pos) OR:=PS.to xN λE σ H q=>by
 obtain⟨B0,H0,ρ,r,s,e,p⟩:=q;cases e
 exact p σ H s
def Ii {st:Stmt}:JS X st qi:=λaf s σ H E I q=>by
 obtain⟨B0,H0,ρ,r,_,e,_⟩:=q;cases e
end
inductive CRows (K:Frag)(P:Params):List DictEntry->List (Str×D)->Prop where
 |nil:CRows K P [] []
 |tup {x:Str}{t:Tok}{h:Int}{a:Addr}{its:Array Value}{n:Nat}{nJ:Array (Option Value)}{ds:List D}{r:List DictEntry}{a9:List (Str×D)}(hh:h=PyData.keyHash P x)
   (l:K.lookup a=some ⟨.type "tuple",none,.seq its n,nJ⟩) (f:(decide (its.size<=1000) && iV its.toList ds)=true) (tl:CRows K P r a9):CRows K P (⟨h,.str x t,.ref a⟩::r) ((x,.tup ds)::a9)
 |flat {x:Str}{t:Tok}{h:Int}{u:Value}{d:D}{r:List DictEntry}{a9:List (Str×D)}(hh:h=PyData.keyHash P x) (f:ww u d=true) (tl:CRows K P r a9):CRows K P (⟨h,.str x t,u⟩::r) ((x,d)::a9)
theorem CRows.lit {K:Frag}{P:Params}:∀ {es:List DictEntry}{a9:List (Str×D)},CRows K P es a9->PySem.W.KeysLit P es
 |_,_,.nil=>trivial
 |_,_,.tup hh _ _ tl=>⟨⟨_,_,rr,hh⟩,tl.lit⟩
 |_,_,.flat hh _ tl=>⟨⟨_,_,rr,hh⟩,tl.lit⟩
theorem CRows.find {K:Frag}{P:Params}(y:Str):∀ {es:List DictEntry}{a9:List (Str×D)},CRows K P es a9->match a9.lookup y with
  |none=>es.find? (λe=>Value.isStrOf y e.key)=none
  |some d=>∃e v,es.find? (λe=>Value.isStrOf y e.key)=some e/\aD v e.val/\∀B,Is K B v d
 |_,_,.nil=>rr
 |_,_,.tup (x:=x) (t:=t) (a:=a) (ds:=ds) hh l f tl=>by
  by_cases e:y=x
  .subst e;rw[List.lookup_cons_self];rw[vC]at f;obtain⟨vs,r,i⟩:=iW (K:=K) f.2;exact⟨_,.ref a,List.find?_cons_of_pos (by simp[Value.isStrOf]),rr,λB=>.tup (.inr ⟨_,_,_,l,rr,rr,le_of_lt (lt_of_le_of_lt (xG f.1) H9),r⟩) (i B)⟩
  .have M:=tl.find y;rw[lookup_cons,beq_eq_false_iff_ne.mpr e];have O:Value.isStrOf y (Value.str x t)=false:=by
    rw[Bool.eq_false_iff];intro z;obtain⟨t',q⟩:=Value.isStrOf_shape z;simp_all
   simp only[find?_cons,O];exact M
 |_,_,.flat (x:=x) (t:=t) (u:=u) (d:=d) hh f tl=>by
  by_cases e:y=x
  .subst e;rw[List.lookup_cons_self];obtain⟨v,r1,_⟩:=ky (K:=K) (B:=λ_=>none) f;refine⟨_,v,List.find?_cons_of_pos (by simp[Value.isStrOf]),r1,λB=>?_⟩;obtain⟨c,b,h⟩:=ky (K:=K) (B:=B) f;have:c=v:=by have g:=r1.abs;rw[b.abs]at g;simp_all
   simp_all
  .have M:=tl.find y;rw[lookup_cons,beq_eq_false_iff_ne.mpr e];have O:Value.isStrOf y (Value.str x t)=false:=by
    rw[Bool.eq_false_iff];intro z;obtain⟨t',q⟩:=Value.isStrOf_shape z;simp_all
   simp only[find?_cons,O];exact M
def m9 (K:Frag)(P:Params)(a:Addr)(a9:List (Str×D)):Prop:=∃es n,K.lookup a=some ⟨.type "dict",none,.dict es n,#[]⟩/\CRows K P es.toList a9/\(a == sysModules)=false
def const_dict {K:Frag}{P:Params}{y:Str}{a:Addr}{es:Array DictEntry}{n:Nat}{a9:List (Str×D)}(e:nsIn K mainGlobals y=some (some (.ref a)))(l:K.lookup a=some ⟨.type "dict",none,.dict es n,#[]⟩)(r:CRows K P es.toList a9)(s:(a == sysModules)=false):
  ∃a,nsIn K mainGlobals y=some (some (.ref a))/\m9 K P a a9:=⟨a,e,es,n,l,r,s⟩
section
variable {X:Cx}{a b e:Expr}{pos:Pos}{x:Str}{p:Pos}
def m9.map {af:AO}{σ:St}{H:Hp}{s:Shared}{d:Addr}{a9:List (Str×D)}(I:Inv X af σ H s)(h:m9 X.K X.w.params d a9):∃f:SV,s.heap.MapOf (strKind X.prog X.w) d f/\(d == sysModules)=false /\
  ∀y,match a9.lookup y with|none=>f y=none|some dd=>∃u v,f y=some u/\aD v u/\∀B,Is X.K B v dd:=by
 obtain⟨es,n,l,r,M⟩:=h;refine⟨_,PySem.W.mapOf_K I.kIn l r.lit,M,λy=>?_⟩;have:=r.find y;have O:findBy Value.isStrOf es y=(es.toList.find? λe=>Value.isStrOf y e.key).map (·.val):=by
  simp_all[findBy]
 cases hl:a9.lookup y with
 |none=>simp_all
 |some dd=>
  rw[hl]at this;obtain⟨en,v,e1,e2,c⟩:=this;exact⟨en.val,v,by rw[O,e1];rfl,e2,c⟩
@[simp] noncomputable def yw (a9:List (Str×D)):D->OB
 |.str y=>(a9.lookup y).map λd=>(d,false)
 |_=>none
@[simp] noncomputable def AW (a9:List (Str×D)):D->OB
 |.str y=>some (.bl (!(a9.lookup y).isSome),false)
 |_=>none
def MB (h:∃d,X.mg x=some (.ref d)/\m9 X.K X.w.params d a9)(hb:JE X b f)(k:Gl X x)(hd:(x == ("__debug__" : Str))=false)(hs:mo b):JE X (.Subscript (.Name x p) b pos) (f1 (yw a9) f):=by
 obtain⟨d,hm,cd⟩:=h;have l:Qu X (λx y H Q=>∃z dd,x=.ref d/\y=.str z/\a9.lookup z=some dd/\∀v,(∀B,Is X.K B v dd)->Q v H):=by
  intro O c af s σ H x y v u Q I m n q hs;obtain⟨z,dd,rfl,rfl,o,q⟩:=q;cases m
  obtain⟨t,rfl⟩:=n;obtain⟨f,i,D,hf⟩:=cd.map I;have:=hf z;rw[o]at this;obtain⟨u,v,e1,e2,A⟩:=this;exact tail_any i.typeIs slot_dict_getitem.lookup (wpAny_getItem_of (strKind_is X.prog X.w z t) i e1 ⟨v,H,I.tok _,e2,q v A⟩) hs
 refine PE.to (Hn l (p0 (v:=.ref d) k hm rr hd) hb hs) λσ H Q q=>?_;refine cX λG W=>?_;obtain⟨B,ρ,d',bb,C,r,M,q⟩:=q;refine eX M λg ex M=>?_;apply W;refine⟨B,ρ,g.1,g.2,C,r,ex,λv E N1 j i1 _=>?_⟩;obtain⟨xd,F⟩:=g;cases i1<;>try (simp[yw]at M;done)
 rename_i z _;refine eZ M λdd e1 e2=>?_;cases e2
 exact⟨z,_,rr,rr,e1,λv hv=>(q.into j).one j.nh (hv _)⟩
@[simp] noncomputable def MC:LD->OB
 |[.lst ds]=>some (.lst ds,true)
 |[.tup ds]=>some (.lst ds,true)
 |_=>none
@[simp] noncomputable def Ij:LD->OB
 |[.lst ds]=>some (.tup ds,false)
 |[.tup ds]=>some (.tup ds,false)
 |_=>none
def Rx:bu X (.type "list") (A3 X.K MC):=by
 refine bu.to vx λxs H Q q=>?_;refine e7 q λB ds d bb c i O q=>?_;cases i with
 |nil=>simp at O
 |cons i1 i2=>
  cases i2 with
  |cons _ _=>cases i1<;>simp at O
  |nil=>
   cases i1<;>try (simp at O;done)
   .rename_i f vs es h hl;cases O
    refine⟨_,_,rr,.inr (aV c h),λl hp=>?_⟩;have M:=Ext.laid (o:=.lst vs) c hp;exact q _ _ _ M (.lst (fF.of au) (hl.mono M.bn)) λ_=>⟨_,_,_,rr,rr,hp,au,hl.mono M.bn⟩
   .rename_i f vs es h hl;cases O
    refine⟨_,_,rr,.inl (c.seq h),λl hp=>?_⟩;have M:=Ext.laid (o:=.lst vs) c hp;exact q _ _ _ M (.lst (fF.of au) (hl.mono M.bn)) λ_=>⟨_,_,_,rr,rr,hp,au,hl.mono M.bn⟩
def MD:bu X (.type "tuple") (A3 X.K Ij):=by
 refine bu.to sC λxs H Q q=>?_;refine e7 q λB ds d bb M i O q=>?_;cases i with
 |nil=>simp at O
 |cons i1 i2=>
  cases i2 with
  |cons _ _=>simp_all
  |nil=>
   cases i1<;>try (simp at O;done)
   .rename_i f vs es h hl;cases O
    exact⟨_,_,rr,.inr ⟨aV M h,q.one M (.tup h hl)⟩⟩
   .rename_i f vs es h hl;cases O
    refine⟨_,_,rr,.inl ⟨M.seq h,λl hp=>?_⟩⟩;have c:=Ext.laid (o:=.tup vs) M hp;exact q _ _ _ c (.tup (gN.of au) (hl.mono c.bn)) X9
end
section
variable {X:Cx}{a b e:Expr}{pos:Pos}{x:Str}{p:Pos}
@[simp] noncomputable def ME (i:Nat)(M O:FE):FS:=λρ=>match ρ[i]? with
 |some (some (.lst ds,true))=>(O ρ).bind λv=>(M ρ).bind λk=>match k.1 with
  |.int j=>(GN ds.length j).bind λn=>if aR v.1=true then some (.nx (ρ.set i (some (.lst (ds.set n v.1),true))))else none
  |_=>none
 |_=>none
def Ry (hv:JE X e fv)(hk:JE X k fk)(g:X.N[i]? = some y)(O:Ll X.env.scope y)(hd:(y == ("__debug__" : Str))=false)
  (h:(y == ("__classdict__" : Str))=false)
  (ha:∀v,assign (.Subscript (.Name y py) k pt) X.env v=(do
   let c <-holding [v] (eval (.Name y py) X.env)
   let iv <-holding [v,c] (eval k X.env)
   standAt pt
   holding [v,c,iv] (setItem c iv v)
   release [v,c,iv] []))
  (hs:swapsWithSole [.Subscript (.Name y py) k pt] e pos.line X.env=pure false) (hw:swappedStores [.Subscript (.Name y py) k pt] e X.env=pure none)
  (h1:(assignEach [.Subscript (.Name y py) k pt] X.env).map (·.2)=[assign (.Subscript (.Name y py) k pt) X.env]):JS X (.Assign [.Subscript (.Name y py) k pt] e pos) (ME i fk fv):=by
 refine PS.to (Qd hv (Qc (jz g O hd h) hk Ho ha) hs hw h1) λE σ H q=>?_;obtain⟨B0,H0,ρ,r,⟨N,s⟩,M,p⟩:=q;unfold ME at M;split at M
 .rename_i ds ei;refine eX M λv ev M=>?_;refine eX M λm ek M=>?_;obtain⟨kd,u⟩:=m;cases kd with
  |int j=>
   refine eX M λn en M=>?_;split at M
   .rename_i hn;cases M
    refine⟨N,ρ,v.1,v.2,s.ext.nh,s.rep,ev,λw A N1 o i1 _=>?_⟩;have s1:=s.grow o;obtain⟨l,vs,d,z,h1,h2,h3,h4⟩:=s1.owL i _ ei;refine⟨_,h1,N1,ρ,_,_,s1.ext.nh,s1.rep,ek,λkv H2 N2 f i2 _=>?_⟩;cases i2
    have s2:=s1.grow f;obtain⟨B,t,d,z,k1,k2,k3,k4⟩:=s2.owL i _ ei;cases z
    rw[h1]at k1;cases k1;exact⟨l,t,j,n,rr,rr,s2.ext.nh _ _ k2,by rw[k4.length];exact en,p σ _ ⟨_,s2.write ei h1 (IsL.set (s2.flat (i1.mono f.bn) hn) n k4)⟩⟩
   .cases M
  |_=>cases M
 simp_all
@[simp] noncomputable def Ik (i:Nat)(f:FE):FS:=λρ=>match ρ[i]? with
 |some (some (.lst ds,true))=>(f ρ).bind λx=>match x.1 with
  |.lst es=>if x.2=true/\aX es=true/\ds.length+es.length<=sizeLine then some (.nx (ρ.set i (some (.lst (ds++es),true))))else none
  |_=>none
 |_=>none
def Rz (he:JE X e f)(h:X.N[i]? = some y)(hv:Ll X.env.scope y)(hd:(y == ("__debug__" : Str))=false)
  (j:(y == ("__classdict__" : Str))=false)
  (O:attributeBase (.Name y py) "extend" X.env (eval (.Name y py) X.env)=eval (.Name y py) X.env)
  (k:((backTo bA (starEach [e] X.env)).all (λx=>!x.1) && (backToKw bA (keywordEach [] X.env)).all (λx=>x.1.isSome)
   && decide ([e].length+([]:List Keyword).length+(if([]:List Keyword).isEmpty then 0 else 1)<30))=true)
  (m:(cb.endLine == bA.line)=true) (hs:starEach [e] X.env=[(false,eval e X.env)]) (n:swapsWith (.Call (.Attribute (.Name y py) "extend" cb) [e] [] bA) none pos.line X.env=pure false):
  JS X (.Expr (.Call (.Attribute (.Name y py) "extend" cb) [e] [] bA) pos) (Ik i f):=by
 refine PS.to (BZ (xP plainAttrs_list PySem.F.slot_list_extend PySem.F.type_list_extend Fg (jz h hv hd j) (cC he dL hs) O k m hs rr) n) λE σ H q=>?_;obtain⟨B0,H0,ρ,r,⟨N,s⟩,M,p⟩:=q;unfold Ik at M;split at M
 .rename_i ds ei;refine eX M λv ev M=>?_;obtain⟨o,A⟩:=v;cases o with
  |lst es=>
   dsimp at M;split at M
   .rename_i hc;cases M
    obtain⟨l,vs,c,z,h1,h2,h3,h4⟩:=s.owL i _ ei;refine⟨_,h1,.inl ⟨rr,vs,fF.of (s.ext.nh _ _ h2)⟩,N,ρ,_,_,s.ext.nh,s.rep,ev,λB C N1 d i1 f1=>?_⟩;obtain⟨l2,ws,t,rfl,z,g1,u,g⟩:=f1 hc.1;cases z
    have s1:=s.grow d;obtain⟨D,w,c,z,k1,k2,_,k4⟩:=s1.owL i _ ei;cases z
    rw[h1]at k1;cases k1;exact⟨l,l2,w,ws,rr,rr,s1.ext.nh _ _ k2,d.nh _ _ u,by rw[k4.length,g.length];exact hc.2.2,p σ _ ⟨_,s1.write ei h1 (k4.append (s1.flats g hc.2.1))⟩⟩
   .cases M
  |_=>cases M
 simp_all
@[simp] noncomputable def R0:LD->OB
 |[.int i]=>some (.int i,false)
 |[.bl b]=>some (.int (if b then 1 else 0),false)
 |_=>none
def Vt:bu X (.type "int") (A3 X.K R0):=by
 refine bu.to Fc λxs H Q q=>?_;refine e7 q λB ds d bb O i M q=>?_;cases i with
 |nil=>simp at M
 |cons i1 i2=>
  cases i2 with
  |cons _ _=>cases i1<;>simp at M
  |nil=>
   cases i1<;>try (simp at M;done)
   .cases M
    exact .inr ⟨_,rr,q.one O (.int _)⟩
   .cases M
    exact .inl ⟨_,rr,q.one O (.int _)⟩
end
open AutoSeq1 (wpAny_loadPart')
noncomputable def sqT (k:Bool):String:=if k=true then "list" else "tuple"
def yx (k:Bool)(l:Addr)(items:AV)(n:Nat)(M:Option Addr)(sl:Array (Option Value)):
  Meets (Builtin.«enumerate.__new__» ⟨[.type "enumerate",.ref l],[]⟩) (λ_ R s=>s.heap.get? l=some { cls:=.type (sqT k),dict:=M,data:=.seq items n,slots:=sl } /\
   R (.ok (.ret (.ref (s.heap.push (M9 k l)).objs.size))) { s with heap:=(s.heap.push (M9 k l)).push { cls:=.type "enumerate",data:=.fields #[.none,.bool false,.ref s.z,rawInt 0,.none,.none] } }):=
 .of_wp λprog w A R s hs=>by
  obtain⟨hp,g,d,tk,os⟩:=s;obtain⟨hl,hs⟩:=hs;have a:=sub_enumerate;have O:kE k (Shared.heap ⟨hp,g,d,tk,os⟩) l items:=by cases k<;>exact⟨_,hl,rr,n,rr⟩
  wp_walk using wpAny_loadPart' hl;refine wpAny_stack_any λst=>wY ?_;split
  .rename_i c _ _ _ _ _;cases (c == Value.type _)
   .wp_walk using wpAny_loadPart' hl,m8 O;exact⟨_,rr,hs⟩
   .wp_walk using wpAny_loadPart' hl,m8 O;exact⟨_,rr,hs⟩
  .wp_walk using wpAny_loadPart' hl,m8 O;exact⟨_,rr,hs⟩
section
variable {prog:Program}{w:World}{A:Around}{E:QV}{s:Shared}
def Il (a:kE k s.heap l items)
  (q:∀h',IsEnum h' (s.z+1) s.z 0 .none->kB k h' s.z l 0->(∀b o,s.heap.get? b=some o->h'.get? b=some o)->Q (.ref (s.z+1)) { s with heap:=h' }):
  wpAny (model prog w) A (call (.type "enumerate") [.ref l]) Q E s:=by
 have hh:∃(M:Option Addr)(sl:Array _)(n:Nat),s.heap.get? l=some { cls:=.type (sqT k),dict:=M,data:=.seq items n,slots:=sl }:=by
  cases k<;>(obtain⟨⟨c,M,dt,sl⟩,hl,hc,n,hd⟩:=a;subst hc;subst hd;exact⟨M,sl,n,hl⟩)
 obtain⟨M,sl,n,hl⟩:=hh;refine callType_new PySem.F.called_enumerate H9 (PySem.F.typeCall_enumerate_1 _) (PySem.F.newCall_enumerate_1 _) (λobj=>PySem.F.args_object_init_2 obj _) PySem.F.entry_enumerate_new (yx k l items n M sl) ⟨hl,?_⟩;have n1:(s.heap.push (M9 k l)).objs.size=s.z+1:=Heap.size_push ..;have O:((s.heap.push (M9 k l)).push { cls:=.type "enumerate",data:=.fields #[.none,.bool false,.ref s.z,rawInt 0,.none,.none] }).get? _=some _:=vY _ rr;have g1:((s.heap.push (M9 k l)).push { cls:=.type "enumerate",data:=.fields #[.none,.bool false,.ref s.z,rawInt 0,.none,.none] }).get? _=some _:=vZ _ (vY _ (by cases k<;>rfl))
 rw[n1]at O;rw[n1];refine⟨⟨_,O,rr⟩,q _ O ?_ λb o e=>vZ _ (vZ _ e)⟩;cases k<;>exact⟨_,g1,rr,rr⟩
def R1 (c:A.handled=none)(it l:Addr)(M:l≠it)(items:AV):Draws prog w A it [it,l] items.size (λi v=>items[i]? = some v) (λi h=>kB k h it l i/\kE k h l items) where
 live:=λi h st=>let ⟨o,e,_⟩:=st.1.ob;⟨o,e⟩
 frame:=λi h h' st a=>⟨st.1.upon λo e=>a it X9 o e,st.2.upon λo e=>a l X9 o e⟩
 item:=λi s Q E hi st q=>eF st.1 st.2 (v:=items[i]) (by simp ) λh' O b=>q _ h' _ (by simp ) ⟨O,st.2.upon λo e=>b.extBut _ _ M e⟩ b
 done:=λs Q E st q=>iG c st.1 st.2 X9 q
def R3 (O:A.handled=none)(it l:Addr)(items:AV)(n:Nat)(hn:items[n]? = none):Draws prog w A it [it,l] n (λ_ _=>True) (λi h=>(kB k h it l i/\kE k h l items)/\i=n) where
 live:=λi h st=>let ⟨o,e,_⟩:=st.1.1.ob;⟨o,e⟩
 frame:=λi h h' st M=>⟨⟨st.1.1.upon λo e=>M it X9 o e,st.1.2.upon λo e=>M l X9 o e⟩,st.2⟩
 item:=λi s Q E hi st q=>absurd st.2 (vS hi)
 done:=λs Q E st q=>iG O st.1.1 st.1.2 hn q
end
noncomputable def Zx (K:Frag)(k:Bool)(a:Addr):It:=
  ⟨λi H=>∃xs x,l8 k K H a xs/\xs[i]? = some x,
   λi H v H'=>∃T x,v=.ref T/\H T=none/\H'=upd H T (.tup [.int i,x])/\∀xs,l8 k K H a xs->xs[i]? = some x,
   λi H=>∃xs,l8 k K H a xs/\xs.length<=i⟩
def F4 {P:Program}{w:World}{K:Frag}{es:QD}{C:Nat}{pt:Pos}{k:Bool}{a e it:Addr}(c:e≠it)(g:a≠e)(j:a≠it):
  Turn P w K (.Tuple es C pt) (Zx K k a) [e,it] e (λi h=>(∃M,IsEnum h e it i M)/\kB k h it a i) where
 mem:=X9
 obj:=λi h st b hb=>by
  obtain⟨⟨M,he⟩,O⟩:=st;simp at hb;rcases hb with rfl|rfl
  .simp_all
  .exact O.ob
 keep:=λi h h' st d=>by
  obtain⟨⟨M,he⟩,O⟩:=st;exact⟨⟨M,d e X9 _ he⟩,O.upon λo q=>d it X9 o q⟩
 item:=by
  intro X l hw m hc i af s σ H E I hf st n;subst l hw m;refine cX λW Y=>?_;obtain⟨⟨M,he⟩,O⟩:=st;obtain⟨xs,x,f,hx⟩:=n;obtain⟨its,r1,p,D⟩:=f.vals I;obtain⟨u,hu,ru⟩:=r1.get hx;apply Y;clear Y;have fresh:=I.hok.fresh (vT _);have r:i<its.toArray.size:=by rw[vH];exact(vV hu).1
  have B:e≠s.z:=vS (vX he);have t:it≠s.z:=by obtain⟨o,q,_⟩:=O.ob;exact vS (vX q)
  refine wpAny_pyNext_enum_itemD (R1 (A:=X.A.in1) (I.ok.hd hc) it a j its.toArray) he ⟨O,p⟩ r c (by simp[c,g.symm]) λv h' tk hv ho F G hsz hk=>?_;have ev:v=u:=by
   simp_all
  subst ev;refine⟨_,rr,wpAny_letOwnedTupleGo_enum ho λh2 J s2=>?_⟩;have y:Heap.SameBut e h' h2:=s2;have d:∀b o,b∉[e,it]->s.heap.get? b=some o->h2.get? b=some o:=λb o hb q=>y.extBut _ _ (λz=>hb (by simp[z])) (hk b o (λz=>hb (by simp[z])) (λz=>hb (by simp[z])) q);have new:bj X.prog X.w (upd H s.z (.tup [.int i,x])) h2 s.z (.tup [.int i,x]):=⟨by show 2<=sizeLine;decide,[.int i tk,v],.cons ⟨tk,rr⟩ (.cons ru .nil),⟨_,y.extBut _ _ B.symm G,rr,_,rr⟩⟩;refine⟨.ref s.z,upd H s.z (.tup [.int i,x]),Cz (s:=s) (t':=tk+1) I hf d (vT _) new,rr,⟨_,x,rr,fresh,rr,λzs hq=>by rw[l8.inj I hq f];exact hx⟩,?_,λb hb=>?_⟩
  .exact⟨⟨_,by have:=J;exact this⟩,F.1.upon λo q=>y.extBut _ _ c.symm q⟩
  .have L:b≠s.z:=by
    simp at hb;rcases hb with rfl|rfl
    .exact B
    .exact t
   rw[a6 L];exact(hf b hb).1
 done:=by
  intro X l hw m hc i af s σ H E I hf st n;subst l hw m;refine cX λW Y=>?_;obtain⟨⟨M,he⟩,O⟩:=st;obtain⟨xs,f,hl⟩:=n;obtain⟨its,r1,p,D⟩:=f.vals I;apply Y;clear Y;have n1:=r1.length;refine wpAny_pyNext_enum_endD (R3 (A:=X.A.in1) (I.ok.hd hc) it a its.toArray i I9) he ⟨⟨O,p⟩,rr⟩ λh' hk=>⟨rr,?_⟩;exact kF (t':=s.toks) I hf λb o hb q=>hk b o (λz=>hb (by simp[z])) q
 self:=λ_ _ _ _ _ st h=>let ⟨⟨_,he⟩,_⟩:=st;wpAny_pyIter_enum he h
section
variable {X:Cx}{a b e:Expr}{pos:Pos}{p:Pos}
def yy:bootBuiltins "enumerate" = some (.type "enumerate"):=S9
noncomputable def tL (ds:LD):LD:=ds.mapIdx λi d=>.tup [.int i,d]
@[simp] def Im (fa:FE):FA:=λρ=>(fa ρ).bind λx=>(fj x.1).map tL
def MF {K:Frag}{N:Hp}{k:Bool}{l:Addr}{vs:LV}{ds:LD}(h1:l8 k K N l vs)(i1:IsL K N vs ds):nO K (Zx K k l) N (tL ds):=by
 intro i H' M;have n1:=i1.length;refine⟨λd ed=>?_,λhl=>⟨vs,h1.same M,?_⟩⟩
 .unfold tL at ed;rw[List.getElem?_mapIdx]at ed;obtain⟨x,e1,rfl⟩:=oY ed;obtain⟨v,ev,iv⟩:=i1.get e1;refine⟨⟨vs,v,h1.same M,ev⟩,λr H2 hy=>?_⟩;obtain⟨T,g,rfl,f,rfl,f1⟩:=hy;have O:=f1 vs (h1.same M);rw[ev]at O;cases O;have c:=Ext.laid (o:=.tup [.int i,v]) M f;exact⟨_,c,.tup (gN.of au) (.cons (.int _) (.cons (iv.mono c.bn) .nil))⟩
 simp_all[tL]
def MG {es:QD}{i:Nat}{pt:Pos}{fa:FE}(hm:X.mg "enumerate" = none)(ha:JE X a fa)(j:Gl X "enumerate")(hs:starEach [a] X.env=[(false,eval a X.env)]):
  JI X (.Tuple es i pt) (.Call (.Name "enumerate" p) [a] [] pos) (Im fa):=by
 intro af s σ H R I q;refine Call_ (eE I j hm yy (PyProof.Rows.callWith_type1 (bD (eV ha l5 hs _ _ s σ H (λvs M=>∃(k:Bool)(l:Addr)(us:LV),vs=[.ref l]/\l8 k X.K M l us/\R (Zx X.K k l) M) I ?_) λus s1 ⟨vs,M,c,r1,m⟩=>?_) hs rr))
 .refine cX λG W=>?_;obtain⟨B,ρ,ds,n,r,O,q⟩:=q;refine eX O λo ex O=>?_;refine eZ O λxs t O=>?_;apply W;clear W;subst O;refine⟨B,ρ,[o.1],n,r,by simp[ex],λvs M N1 d i1=>?_⟩;cases i1 with
  |cons u v=>
   cases v
   obtain⟨k1,l1,us,rfl,s1,m1⟩:=yv u t;exact⟨k1,l1,us,rr,s1.same d.nh,q _ M N1 d (MF s1 m1)⟩
 .obtain⟨k,l,ws,rfl,h1,q⟩:=m;obtain⟨y,rfl,w⟩:=r1.one;cases w
  obtain⟨its,z,f,A⟩:=h1.vals c;have GS:=f.lt;refine Il f λh' g c2 x=>?_;refine wpAny_pyIter_enum g ⟨s1.z+1,[s1.z+1,s1.z],_,_,M,rr,c.kept x,
   F4 (Nat.succ_ne_self _) (vS (lt_succ_of_lt GS)) (vS GS),⟨⟨_,g⟩,c2⟩,λb hb=>?_,q⟩
  have h:s1.z<=b:=by
   grind
  exact c.fpOk h (c.hok.fresh h)
end
end DL
namespace DL
open PySem PySem.Spec PyProof.Rows
def jy (xs:Array Nat):Prop:=xs.toList.Pairwise (· < ·)
def jy.lt {xs:Array Nat}(h:jy xs){i j a b:Nat}(hi:xs[i]? = some a)(hj:xs[j]? = some b)(l:i<j):a<b:=by
 obtain⟨h1,e1⟩:=Array.getElem?_eq_some_iff.mp hi;obtain⟨h2,e2⟩:=Array.getElem?_eq_some_iff.mp hj;have:=List.pairwise_iff_getElem.mp h i j (by simpa using h1) (by simpa using h2) l;simp_all
theorem qj {xs:Array Nat}(h:jy xs)(j:Nat):∀(fuel lo hi:Nat),hi<=xs.size->lo<=hi->hi - lo<=fuel->(∀i a,i<lo->xs[i]? = some a->a<j)->(∀i a,hi<=i->xs[i]? = some a->j<=a) ->
  (SetTable.below.go xs j fuel lo hi<=xs.size/\(∀i a,i<SetTable.below.go xs j fuel lo hi->xs[i]? = some a->a<j)/\∀i a,SetTable.below.go xs j fuel lo hi<=i->xs[i]? = some a->j<=a)
 |0,lo,hi,h1,h2,h3,h4,h5=>by
  have:lo=hi:=N9
  subst this;exact⟨h1,h4,h5⟩
 |fuel+1,lo,hi,h1,h2,h3,h4,h5=>by
  unfold SetTable.below.go;by_cases hl:lo<hi
  .rw[if_pos hl];have hm:(lo+hi) / 2<xs.size:=N9
   have M:xs[(lo+hi) / 2]? = some (xs.getD ((lo+hi) / 2) j):=by simp_all
   by_cases hc:xs.getD ((lo+hi) / 2) j<j
   .rw[if_pos hc];refine qj h j fuel _ _ h1 N9 N9 (λi a O ha=>?_) h5;by_cases hx:i=(lo+hi) / 2
    .simp_all
    .exact Nat.lt_trans (h.lt ha M N9) hc
   .rw[if_neg hc];refine qj h j fuel _ _ N9 N9 N9 h4 λi a O ha=>?_;by_cases hx:i=(lo+hi) / 2
    .rw[hx,M]at ha;lia
    .have:=h.lt M ha N9;lia
  .rw[if_neg hl];have:lo=hi:=N9
   subst this;exact⟨h1,h4,h5⟩
def qk {xs:Array Nat}(h:jy xs)(j:Nat):SetTable.below xs j<=xs.size/\(∀i a,i<SetTable.below xs j->xs[i]? = some a->a<j)/\∀i a,SetTable.below xs j<=i->xs[i]? = some a->j<=a:=
 qj h j _ 0 _ (vT _) (uN _) N9 (λ_ _ h=>absurd h (Nat.not_lt_zero _)) λi a h1 h2=>by
  simp_all
def AX {xs:Array Nat}(h:jy xs){i a:Nat}(e:xs[i]? = some a):SetTable.below xs (a+1)=i+1:=by
 obtain⟨h1,h2,h3⟩:=qk h (a+1);by_cases c:SetTable.below xs (a+1)<i+1
 .have:=h3 i a N9 e;lia
 .by_cases c2:i+1<SetTable.below xs (a+1)
  .obtain⟨b,hb⟩:∃b,xs[i+1]? = some b:=⟨_,Array.getElem?_eq_getElem N9⟩;have:=h2 _ b c2 hb;have:=h.lt e hb N9;lia
  simp_all<;>lia
def AY {xs:Array Nat}(h:jy xs):SetTable.below xs 0=0:=by
 obtain⟨h1,h2,_⟩:=qk h 0;by_cases c:0<SetTable.below xs 0
 .obtain⟨b,hb⟩:∃b,xs[0]? = some b:=⟨_,Array.getElem?_eq_getElem N9⟩;exact absurd (h2 0 b c hb) (Nat.not_lt_zero _)
 simp_all
def Io {xs:Array Nat}(h:jy xs){j:Nat}(hj:xs[SetTable.below xs j]? ≠ some j):jy (SetTable.insertAt xs (SetTable.below xs j) j):=by
 obtain⟨h1,h2,h3⟩:=qk h j;have e:(SetTable.insertAt xs (SetTable.below xs j) j).toList=xs.toList.take (SetTable.below xs j)++j::xs.toList.drop (SetTable.below xs j):=by
  simp_all[SetTable.insertAt,List.take_of_length_le]
 unfold jy;rw[e,List.pairwise_append,pairwise_cons];have lo:∀a∈xs.toList.take _,a<j:=λa ha=>by
  obtain⟨i,hi⟩:=mem_iff_getElem?.mp ha;rw[List.getElem?_take]at hi;split at hi
  .rename_i hl;exact h2 i a hl (by simpa using hi)
  .cases hi
 have M:∀a∈xs.toList.drop (SetTable.below xs j),j<a:=λa ha=>by
  obtain⟨i,hi⟩:=mem_iff_getElem?.mp ha;rw[List.getElem?_drop,Array.getElem?_toList]at hi;have h4:=h3 _ a N9 hi;rcases Nat.lt_or_eq_of_le h4 with h5|h5
  .exact h5
  .subst h5;by_cases h0:i=0
   .subst h0;exact absurd hi hj
   .obtain⟨b,hb⟩:∃b,xs[SetTable.below xs j]? = some b:=⟨_,Array.getElem?_eq_getElem (by have:=(Array.getElem?_eq_some_iff.mp hi).1;lia)⟩;have:=h3 _ b (vT _) hb;have:=h.lt hb hi N9;simp<;>lia
 refine⟨List.Pairwise.sublist (take_sublist _ _) h,⟨M,List.Pairwise.sublist (List.drop_sublist _ _) h⟩,λa ha b hb=>?_⟩;rcases vP hb with rfl|hb
 .exact lo a ha
 .exact Nat.lt_trans (lo a ha) (M b hb)
theorem lA {t:SetTable}{f:Nat->Int}{h:Int}:∀(fuel:Nat)(p:SetTable.Probe)(j:Nat)(d:Option Nat),(∀d,p.dummy=some d->t.place[SetTable.below t.place d]? ≠ some d)->SetTable.probe.go t f h fuel p=some (.empty j d)->t.place[SetTable.below t.place j]? ≠ some j/\∀e,d=some e->t.place[SetTable.below t.place e]? ≠ some e
 |0,_,_,_,_,h=>by simp[SetTable.probe.go]at h
 |fuel+1,p,j,d,hd,M=>by
  unfold SetTable.probe.go at M;cases hs:t.slot _ with
  |empty=>
   rw[hs]at M;cases M
   refine⟨λz=>?_,hd⟩;unfold SetTable.slot at hs;simp[z]at hs
  |dummy=>
   rw[hs]at M;refine lA _ _ j d (λe he=>?_) M;have:=by
    unfold SetTable.advance at he;split at he<;>exact(vK he).symm
   subst this;intro z;unfold SetTable.slot at hs;simp[z]at hs
  |live i=>
   rw[hs]at M;dsimp at M;split at M
   .cases M
   .refine lA _ _ j d (λe he=>hd e ?_) M;unfold SetTable.advance at he;split at he<;>exact he
def Ip {t:SetTable}{h:Int}{j:Nat}{w:Bool}(e:t.freeSlot h=some (j,w)):t.place[SetTable.below t.place j]? ≠ some j:=by
 unfold SetTable.freeSlot at e;split at e
 .rename_i M d hp;obtain⟨h1,h2⟩:=lA _ _ _ _ (λd hd=>by cases hd) hp;cases e
  cases d with
  |none=>exact h1
  |some d=>exact h2 d rr
 simp_all
def iX (n:Nat):jy (Array.range n):=by simp_all[jy,List.pairwise_lt_range]
def F5 {c M d:Nat}{led pl:Bool}{O:Array Int}{t:SetTable}{o:Array Nat}(e:SetTable.laid c M d led pl O=some (t,o)):jy t.place:=by
 refine eX e λow _ e=>?_;cases e
 refine pairwise_map.mpr ?_;refine List.Pairwise.filterMap _ (λa b h x hx y hy=>?_) List.pairwise_lt_range;obtain⟨_,_,rfl⟩:=oY hx;obtain⟨_,_,rfl⟩:=oY hy;exact h
def F6 (t:SetTable)(es:Array (Int×Value))(n:Nat):(relayAll t es n).2.1.led=t.led:=by
 unfold relayAll;split
 .rename_i t' M h;refine eX h λow _ h=>?_;cases h
  dsimp ;split<;>rfl
 .rfl
def AZ (t:SetTable)(es:Array (Int×Value))(n:Nat)(h:jy t.place):jy (relayAll t es n).2.1.place:=by
 unfold relayAll;split
 .rename_i t' M e;dsimp;split
  .exact F5 e
  .exact iX _
 .exact iX _
def Iq (t:SetTable)(es:Array (Int×Value))(hh:Int)(x:Value)(h:jy t.place):jy (layNew t es hh x).2.1.place:=by
 unfold layNew;split
 .rename_i slot M e;dsimp [SetTable.orStandIn];repeat' (first|exact Io h (Ip e)|exact iX _|split)
 .exact iX _
def MH (t:SetTable)(es:Array (Int×Value))(h:Int)(x:Value):(layNew t es h x).2.1.led=t.led:=by
 unfold layNew;split
 .dsimp [SetTable.orStandIn];repeat' (first|rfl|split)
 .rfl
structure TabT (w:World)(es:Array (Int×Value))(t:SetTable):Prop where
 fits:t.fits es.size=true
 led:t.led = !w.params.followText "set-order"
 rise:jy t.place
structure KOf {prog:Program}{w:World}{κ:Type}[DecidableEq κ](kd:PySem.KeyKind prog w κ)(kf:Value->κ)(mk:κ->Tok->Value):Prop where
 is:∀k t,kd.is k (mk k t)=true
 of:∀ {k v},kd.is k v=true->∃t,v=mk k t
 kf:∀k t,kf (mk k t)=k
 sc:∀k t,(mk k t).scannable=true
def ib {prog:Program}{w:World}{κ:Type}[DecidableEq κ](kd:PySem.KeyKind prog w κ)(kf:Value->κ)(h:Heap)(a:Addr)(M:List κ):Prop:=
 ∃o es O t,h.get? a=some o/\o.ExactSet/\o.data=.set es O t/\ElemsOf kd es.toList/\(es.toList.map (λe=>kf e.2)).Perm M/\M.Nodup/\M.length<scanBound/\TabT w es t
noncomputable def ie {κ:Type}[DecidableEq κ](M:List κ)(x:κ):List κ:=if x∈M then M else M++[x]
theorem Ir {κ:Type}[DecidableEq κ](M:List κ)(x:κ):(ie M x).length<=M.length+1:=by unfold ie;split<;>simp
section
variable {prog:Program}{w:World}{A:Around}{E:QV}{s:Shared}{κ:Type}[DecidableEq κ] {kd:PySem.KeyKind prog w κ}{kf:Value->κ}{mk:κ->Tok->Value}
def KOf.key (M:KOf kd kf mk)(h:kd.is k v=true):kf v=k:=by obtain⟨t,rfl⟩:=M.of h;exact M.kf _ _
def tM (O:KOf kd kf mk){es:Array (Int×Value)}{a:List κ}(M:ElemsOf kd es.toList)(hp:(es.toList.map (λe=>kf e.2)).Perm a)(k:κ):k∈a ↔ ∃e∈es.toList,kd.is k e.2=true:=by
 rw[<-hp.mem_iff,List.mem_map];constructor
 .rintro⟨e,he,rfl⟩;obtain⟨⟨k',hk,_⟩,_⟩:=M e he;exact⟨e,he,by rw[O.key hk];exact hk⟩
 .rintro⟨e,he,hk⟩;exact⟨e,he,O.key hk⟩
def tN {h:Heap}{a:Addr}{o:Obj}{es:Array (Int×Value)}{O:Nat}{t:SetTable}(ho:h.get? a=some o)(hd:o.data=.set es O t)(M:Array (Int×Value))(t':SetTable):
  (h.update a (Obj.putSet M t')).get? a=some { o with data:=.set M (O+1) t' }:=by
 have:=Heap.get?_update_self (Obj.putSet _ t') ho (by rw[putSet_of M t' hd];rfl);rw[putSet_of _ t' hd]at this;exact this
def qm {g:Bool->Sem Unit}(D:∀(b:Bool)(c:Shared)(u:Unit->Shared->Prop),u () c->wpAny (model prog w) A (g b) u E c)
  {a:Addr}{o:Obj}{es:Array (Int×Value)}{F:Nat}{t:SetTable}(ho:s.heap.get? a=some o) (v:o.ExactSet) (hd:o.data=.set es F t)
  {M:Array (Int×Value)}{O:SetTable}{i:List κ}(x:ElemsOf kd M.toList) (l:(M.toList.map (λe=>kf e.2)).Perm i) (nd:i.Nodup)
  (hb1:i.length<scanBound) (m:O.fits M.size=true) (y:O.led = !w.params.followText "set-order") (z:jy O.place) {G:Bool}{R:Option Bool->Shared->Prop}
  (h:∀h',Heap.SameBut a s.heap h'->ib kd kf h' a i->R (some true) { s with heap:=h' }):
  wpAny (model prog w) A (do
    storeSet a M O
    if(!G && O.tooFull)=true then do
      g (relayAll O M (SetTable.grown M.size)).2.2
      storeSet a (relayAll O M (SetTable.grown M.size)).1 (relayAll O M (SetTable.grown M.size)).2.1
      pure (some true)
     else pure (some true)) R E s:=by
 have j:M.size=i.length:=by rw[<-l.length_eq,vI,vG]
 refine wX (wpAny_storeSet_of ho hd ?_ (fits_of_scanBound (by rw[j];exact hb1)));have n:=tN ho hd M O;have B:=vW s.heap a (Obj.putSet M O);split
 .have hp:=relayAll_perm O M (SetTable.grown M.size);have d:=relayAll_fits O M (SetTable.grown M.size);have p:=F6 O M (SetTable.grown M.size);have f:=AZ O M (SetTable.grown M.size) z;generalize H:relayAll O M (SetTable.grown M.size)=Rl at hp d p f |-;obtain⟨k,C,I⟩:=Rl;dsimp only at hp d p f |-;have q:ElemsOf kd k.toList:=x.perm hp;have hsz:k.size=M.size:=by rw[<-vG,hp.length_eq,vG]
  refine wX (D _ _ _ ?_);refine wX (wpAny_storeSet_of n rr ?_ (fits_of_scanBound (by rw[hsz,j];exact hb1)));have r:=tN n rr k C;exact wY (h _ (B.trans (vW _ a _)) ⟨_,k,_,C,r,v,rr,q,(hp.map _).trans l,nd,hb1,d,p.trans y,f⟩)
 .exact wY (h _ B ⟨_,M,_,O,n,v,rr,x,l,nd,hb1,m,y,z⟩)
def Ba (f:KOf kd kf mk){a:Addr}{d:List κ}{k:κ}{tk:Tok}{Q:Bool->Shared->Prop}(hS:ib kd kf s.heap a d)(K:d.length+1<scanBound)
  (h:∀b h',Heap.SameBut a s.heap h'->ib kd kf h' a (ie d k)->Q b { s with heap:=h' }):
  wpAny (model prog w) A (setAddHashed a (mk k tk) (kd.hash k)) Q E s:=by
 have hS0:=hS;refine cX λW Y=>?_;obtain⟨o,es,P,t,ho,v,hd,m,M,nd,hb,hf,B,N⟩:=hS;apply Y;clear Y;have J:kd.is k (mk k tk)=true:=f.is k tk;have sz:es.size=d.length:=by rw[<-M.length_eq,vI,vG]
 refine wpAny_holding (wX (wpAny_setState_of ho hd hf ?_));dsimp only;rw[byScan_of (x:=mk k tk) (f.sc k tk) (by rw[sz];exact hb) m];simp only[↓reduceIte];unfold setAddByScan;refine wX ?_;refine wX (wpAny_rule ?_);refine wX (wpAny_setScan_of J ho hd hf m ?_);cases hr:List.findIdx? (λe=>kd.is k e.2) es.toList with
 |some j=>
  dsimp only;obtain⟨hj,C,_⟩:=List.findIdx?_eq_some_iff_getElem.mp hr;have hm:k∈d:=(tM f m M k).mpr ⟨es.toList[j],getElem_mem hj,C⟩;refine wY (wY ?_);simp_all[ie,Heap.SameBut.refl]
 |none=>
  dsimp only;have hm:k∉d:=λz=>by
   obtain⟨e,he,hp⟩:=(tM f m M k).mp z;grind
  have ea:ie d k=d++[k]:=by unfold ie;rw[if_neg hm]
  have D:∀(b:Bool){O:Shared}{g:Unit->Shared->Prop},g () O->wpAny (model prog w) A (match b with|true=>rule "set.scan.the-table-gave-way" | false=>pure ()) g E O:=
   λb O g hq=>by cases b<;>first|exact wY hq|exact wpAny_rule hq
  have p:=layNew_perm t es (kd.hash k) (mk k tk);have q:=layNew_fits t es (kd.hash k) (mk k tk);have r:=Iq t es (kd.hash k) (mk k tk) N;have u:=MH t es (kd.hash k) (mk k tk);generalize R:layNew t es (kd.hash k) (mk k tk)=L at p q u r |-;obtain⟨n,S,T,U⟩:=L;rw[Array.toList_push]at p;have F:ElemsOf kd n.toList:=(m.push J (f.sc k tk)).perm p;have G:(n.toList.map (λe=>kf e.2)).Perm (d++[k]):=(p.map _).trans (by rw[uW,List.map_singleton,f.kf];exact M.append_right _);have i:(d++[k]).Nodup:=by
   rw[nodup_append];refine⟨nd,X9,λx hx y hy=>?_⟩;rw[mem_singleton]at hy;subst hy;exact λz=>hm (z ▸ hx)
  have hb1:(d++[k]).length<scanBound:=by rw[uZ];exact K
  refine wX (D _ ?_);have H:=λh' c l=>h true h' c (by rw[ea];exact l);have I:∀(b:Bool)(O:Shared)(g:Unit->Shared->Prop),g () O->wpAny (model prog w) A (match b with|true=>rule "set.scan.the-table-gave-way" | false=>pure ()) g E O:=λb O g hq=>by cases b<;>first|exact wY hq|exact wpAny_rule hq
  split
  .refine wX ?_;rw[hashByValue_scannable 8 (x:=mk k tk) (f.sc k tk)];refine wY ?_;cases plainKind (mk k tk) with
   |false=>exact qm I ho v hd F G i hb1 (SetTable.fits_plain_off q) (u.trans B) r λh' c l=>wY (H h' c l)
   |true=>exact qm I ho v hd F G i hb1 q (u.trans B) r λh' c l=>wY (H h' c l)
  .exact qm I ho v hd F G i hb1 q (u.trans B) r λh' c l=>wY (H h' c l)
end
section
variable {κ:Type}[DecidableEq κ] {ts:List κ}{x y:κ}
def dG (ss:List κ):List κ:=ss.foldl ie []
def qo (h:ts.Nodup)(x:κ):(ie ts x).Nodup:=by
 grind[ie]
def yz:y∈ie ts x↔y∈ts\/y=x:=by
 unfold ie;split
 .rename_i hm;exact⟨.inl,λz=>z.elim id λe=>e ▸ hm⟩
 .simp
def wx (ss:List κ):∀ts:List κ,(ss.foldl ie ts).length<=ts.length+ss.length:=by
 induction ss with
 |nil=>simp
 |cons x r M=>grind[Ir]
theorem mB (ss:List κ):(dG ss).length<=ss.length:=by have:=wx ss [];simpa [dG]using this
def F7 (ss:List κ)(x:κ):dG (ss++[x])=ie (dG ss) x:=by simp_all[dG]
end
theorem StrsAre.at:∀ {vs:LU}{ss:LS},StrsAre vs ss->∀(i:Nat)(v:Value),vs[i]? = some v->∃x t,v=.str x t/\ss[i]? = some x
 |_,_,.nil,i,v,h=>by simp at h
 |_,_,.cons x t hr,0,v,h=>by simp at h;exact⟨x,t,h.symm,rr⟩
 |_,_,.cons x t hr,i+1,v,h=>by
  exact StrsAre.at hr i v h
def ib.at {prog:Program}{w:World}{κ:Type}[DecidableEq κ]{kd:PySem.KeyKind prog w κ}{kf:Value->κ}{M:List κ}(x:ib kd kf h a M)(k:∀o,h.get? a=some o->h'.get? a=some o):ib kd kf h' a M:=by
 obtain⟨o,es,O,t,ho,r⟩:=x;exact⟨o,es,O,t,k o ho,r⟩
section
variable {prog:Program}{w:World}{A:Around}{R:Result->Shared->Prop}{I:Addr}{fp wr:List Addr}{G:Array GenState->Array GenState->Prop}{n:Nat}{P:Nat->Value->Prop}{St:Nat->Shared->Prop}{κ:Type}[DecidableEq κ] {kd:PySem.KeyKind prog w κ}{kf:Value->κ}{mk:κ->Tok->Value}
def wy (j:KOf kd kf mk)(W:WalksS prog w A.in1 I fp wr G n P St)(S:Addr)(l:S∉fp)(ss:List κ)(hn:ss.length=n)
  (p:∀i v,P i v->∃x t,v=mk x t/\ss[i]? = some x) (hb:n+1<scanBound):
  ∀(k i:Nat)(s:Shared),n - i=k->i<=n->St i s->ib kd kf s.heap S (dG (ss.take i)) ->
   (∀s',Moved (S::wr) G s s'->ib kd kf s'.heap S (dG ss)->R (.ok (.ret .none)) s') ->
   codeAny (model prog w) A (.builtin "set.update.loop" ⟨[.ref S,.ref I],[]⟩) R s:=by
 have a:S∉wr:=λh=>l (W.sub _ h);have M:∀b∈wr,b∈S::wr:=λb hb=>mZ _ hb;intro k;induction k with
 |zero=>
  intro i s hk hi O hS hR;have q:i=n:=by omega
  subst q;refine codeAny_builtin PyProof.Rows.F.entry_set_update_loop ?_;refine wX (W.done s _ _ O λs' hm=>?_);show wpAny _ A.in1 (ret Value.none) _ _ s';refine wY (hR s' (hm.mono M) ?_);rw[List.take_of_length_le (by omega)]at hS;exact hS.at λo e=>hm.heap S _ a e
 |succ k r=>
  intro i s hk hi O hS hR;have m:i<n:=by omega
  refine codeAny_builtin PyProof.Rows.F.entry_set_update_loop ?_;refine wX (W.item i s _ _ m O λv s' u c hm=>?_);obtain⟨x,t,rfl,hx⟩:=p i v u;have y:ib kd kf s'.heap S (dG (ss.take i)):=hS.at λo e=>hm.heap S _ a e;refine wX (wpAny_holding ?_);unfold setAdd;refine wpAny_holding ?_;refine wX (kd.pyHash (k:=x) (j.is x t) ?_);have hl:(dG (ss.take i)).length+1<scanBound:=by grind[mB]
  refine Ba j (s:={ s' with toks:=s'.toks+1 }) y hl λb h' d C=>?_;have z:ib kd kf h' S (dG (ss.take (i+1))):=by
   simp_all[take_add_one,F7]
  refine wY ⟨plainId_quiet PyProof.Rows.F.plain_set_update_loop _,r (i+1) _ (by omega) m (W.frame _ s' _ _ c (le_succ _) λb hb o e=>?_) z λB f g=>?_⟩
  .rw[d.2 b (λh:b=S=>l (by rw[<-h];exact hb))];exact e
  .refine hR B (Moved.trans W.gtrans ((hm.mono M).then_heap (le_succ _) λb o hb e=>?_) f) g;rw[d.2 b (λh:b=S=>hb (by rw[h];exact mX))];exact e
end
section
variable {prog:Program}{w:World}{A:Around}{E:QV}{s:Shared}{κ:Type}[DecidableEq κ] {kd:PySem.KeyKind prog w κ}{kf:Value->κ}{mk:κ->Tok->Value}
noncomputable abbrev du (w:World):Obj:={ cls:=.type "set",dict:=none,data:=.set #[] 0 (.fresh 0 0 (!w.params.followText "set-order")) }
def y0 (a:Value)
  (h:Q₁ (.ref s.z) { s with heap:=s.heap.push (du w) }):
  codeAny (model prog w) A (.call (.builtin "set.__new__") ⟨[.type "set",a],[]⟩) (wants Q₁ E) s:=by
 refine codeAny_of_tree ?_;refine wX (wpAny_of_eq (PySem.F.newCall_set_1 a) (wY ⟨plainId_quiet PySem.F.plain_set_new _,codeAny_builtin PySem.F.entry_set_new ?_⟩));unfold Builtin.«set.__new__» Builtin.Frozenset.newClass;have M:=sub_set_self;wp_walk;refine wpAny_askSetting (wY ?_);refine wX (wpAny_alloc (wY ?_));exact wY h
set_option maxHeartbeats 3200000 in
def sG (G:KOf kd kf mk){ss:List κ}
  (hh:A.handled=none) (hl:s.heap.IsList l items) (H:∀(i:Nat)(v:Value),items[i]? = some v->∃x t,v=mk x t/\ss[i]? = some x) (I:ss.length=items.size) (hb:items.size+1<scanBound)
  (h:∀(h':Heap)(tk:Nat),ib kd kf h' s.z (dG ss) ->
   (∀b o,b<s.z->s.heap.get? b=some o->h'.get? b=some o)->Q (.ref s.z) { s with heap:=h',toks:=tk }):
  wpAny (model prog w) A (call (.type "set") [.ref l]) Q E s:=by
 obtain⟨c,tl,J⟩:=called_set.mro;have K:=called_set.made;have L:=called_set.sub;refine wpAny_call (codeAny_of_tree ?_);show wpAny _ _ (callAny (.type "set") _) _ _ _;refine wY ⟨Code.quiet_builtin _ S9,codeAny_builtin PySem.F.entry_type_call ?_⟩;rw[Around.under_plain (weight_type_call_type "set" [.ref l] []) rr];have h1:=called_set.notType;have h2:=called_set.canCreate;have N:=PySem.F.typeCall_set_1 (.ref l);repeat (any_goals (first|assumption|wp_step))
 refine codeAny_mono (y0 (.ref l) (E:=E) (Q₁:=λobj a=>obj=.ref s.z/\a={ s with heap:=s.heap.push (du w) }) ⟨rr,rr⟩) λr a hr=>?_;cases r with
 |error e=>exact hr
 |ok fl=>
  cases fl with
  |ret obj=>
   obtain⟨rfl,rfl⟩:=hr;have hS:(s.heap.push (du w)).get? s.z=some (du w):=vY _ rr;have P:Shared.TypeIs { s with heap:=s.heap.push (du w) } (.ref s.z) "set":=⟨_,hS,rr⟩;have S:=called_set.init.lookup;have T:=called_set.init.bind (.ref s.z);repeat (any_goals (first|assumption|wp_step))
   refine codeAny_mono (codeAny_call_builtin (R:=wants (λr d=>r=.none/\∃h' tk,d={ s with heap:=h',toks:=tk } /\
     ib kd kf h' s.z (dG ss) /\
     (∀b o,b<s.z->s.heap.get? b=some o->h'.get? b=some o)) E) called_set.init.plain PySem.F.entry_set_init (check_set_init_1 P ?_)) λg d M=>?_
   .obtain⟨U,y,z,B,C⟩:=hl;obtain⟨V,W,X,O⟩:=U;simp only at z C;subst z;subst C;have j:(s.heap.push (du w)).get? l=some { cls:=.type "list",dict:=W,data:=.seq items B,slots:=O }:=vZ _ y;have Y:=PySem.F.sub_list_set;have Z:=PySem.F.sub_list_frozenset;have xH:(Value.type "list" == Value.type "dict")=false:=H9
    have D:(s.heap.push (du w)).IsList l items:=⟨_,j,rr,B,rr⟩;unfold Builtin.«set.__init__» noKeywords Builtin.Frozenset.updateFrom;generalize k:pyIter=PI;wp_walk;subst k;refine wpAny_pyIter_list D ?_;refine wX (wpAny_runValue ?_);have hlS:l<s.z:=vX y;have m:A.in1.in1.in1.handled=none:=by simp[hh]
    have n:l≠(s.heap.push (du w)).objs.size:=by
     simp_all[vS,lt_succ_of_lt]
    have O8:s.z∉[(s.heap.push (du w)).objs.size,l]:=by
     simp_all[ne_of_gt]
    refine wy G ((Walks.list m _ l n items).toS) s.z
     O8 ss I H hb (items.size - 0) 0 _ (by omega) (uN _)
     ⟨⟨_,vY _ rr,rr,rr⟩,(D.push _)⟩ ?hS0 ?hR
    case hS0=>
     have p:((s.heap.push (du w)).push { cls:=.type "list_iterator",data:=.fields #[.ref l,.int 0 0] }).get? s.z
       = some (du w):=vZ _ hS
     exact⟨_,#[],0,_,p,⟨rr,rr,rr⟩,rr,λe he=>by simp at he,List.Perm.refl _,nodup_nil,(by show(0:Nat)<scanBound;decide),rr,rr,List.Pairwise.nil⟩
    case hR=>
     intro s' hm q
     obtain⟨h',g',d',SG,u⟩:=s'
     have eg:g'=s.gens:=hm.gens
     have ed:d'=s.drawn:=hm.drawn
     have eo:u=s.os:=hm.os
     subst eg;subst ed;subst eo
     show wpAny _ _ _ _ _ _
     refine wY ?_
     show wpAny _ _ (ret Value.none) _ _ _
     refine wY ⟨rr,h',SG,rr,q,λb o hb e=>?_⟩
     have hb1:b≠s.z:=vS hb
     have hb2:b≠(s.heap.push (du w)).objs.size:=by
      simp_all[vS,lt_succ_of_lt]
     exact hm.heap b o (by simp_all) (vZ _ (vZ _ e))
   .cases g with
    |error e=>exact M
    |ok f=>
     cases f with
     |ret r=>
      obtain⟨rfl,h',tk,rfl,q,GH⟩:=M;repeat (any_goals (first|assumption|wp_step))
      exact h _ _ q GH
     |_=>exact M.elim
  |_=>exact hr.elim
end
open Sem (wp)
section
variable {M:Model}{A:Around}{E:QV}{s:Shared}
def MI (hn:n≠0)(h:∀k d,k<n->Q k { s with drawn:=d }):wpAny M A (choose src n) Q E s:=by
 intro O p a;refine⟨hn,?_⟩;have:=h _ (s.drawn.bump src) (Nat.mod_lt (M.w.draws src (s.drawn.get src)) (Nat.pos_of_ne_zero hn));simp_all
end
def mC {α:Type}:∀(l:List α)(i:Nat),i<l.length->(l.eraseIdx i).length=l.length - 1:=by grind
theorem lB {α:Type}:∀(l:List α)(i:Nat)(x:α),l[i]? = some x->(x::l.eraseIdx i).Perm l
 |[],i,x,h=>by simp at h
 |a::l,0,x,h=>by simp_all
 |a::l,i+1,x,h=>by
  exact(List.Perm.swap a x _).trans ((lB l i x h).cons a)
theorem C0 {α:Type}:∀(n:Nat)(xs:List α)(s:Shared)(Q:List α->Shared->Prop),xs.length=n->(∀ys d,ys.Perm xs->Q ys { s with drawn:=d })->wpAny M A (drawOrder n xs) Q E s
 |0,xs,s,Q,hl,h=>by
  have:=List.eq_nil_of_length_eq_zero hl;subst this;exact wY (h [] _ (List.Perm.refl _))
 |n+1,[],s,Q,hl,h=>by simp at hl
 |n+1,x::r,s,Q,hl,h=>by
  refine wX (MI X9 λk d hk=>?_);obtain⟨y,hy⟩:∃y,(x::r)[k]? = some y:=⟨_,vU hk⟩;rw[hy];refine wX (C0 n _ _ _ (by rw[mC _ _ hk,hl];rfl) λys d' hp=>wY (h _ _ ((hp.cons y).trans (lB _ _ _ hy))))
theorem C1 {α:Type}(next:Nat->Nat):∀(fuel k:Nat)(left:List α)(out:Array α),left.length=fuel->(pickOrder.go next fuel k left out).toList.Perm (out.toList++left)
 |0,k,left,out,hl=>by
  simp_all[pickOrder.go]
 |fuel+1,k,left,out,hl=>by
  unfold pickOrder.go;have hk:next k % left.length<left.length:=Nat.mod_lt _ N9;obtain⟨y,hy⟩:∃y,left[next k % left.length]? = some y:=⟨_,vU hk⟩;rw[hy];refine(C1 _ _ _ _ _ (by rw[mC _ _ hk];lia)).trans ?_;rw[Array.toList_push,append_assoc];exact(lB _ _ _ hy).append_left _
def F8 {α:Type}(next:Nat->Nat)(xs:Array α):(pickOrder next xs).toList.Perm xs.toList:=by
 grind[C1,pickOrder]
def be:Slot "set_iterator" "__next__" "set_iterator.__next__" :=
 .of (owner:="set_iterator") (n:="__next__") O9 S9 S9 S9
  (by first|exact .inl S9|exact .inr _) u9
def dO:entryFor table "set_iterator.__next__" = some Builtin.«set_iterator.__next__»:=entryFor_of_tree u9
def eW (a:Value):argsOk "set_iterator.__next__" ⟨[a],[]⟩:=u9
def lm:Slot "set_iterator" "__iter__" "set_iterator.__iter__" :=
 .of (owner:="set_iterator") (n:="__iter__") O9 S9 S9 S9
  (by first|exact .inl S9|exact .inr _) u9
def qp:entryFor table "set_iterator.__iter__" = some Builtin.«dict_keyiterator.__iter__» :=
 entryFor_alias (id':="dict_keyiterator.__iter__") u9 rr S9 u9
def sJ (a:Value):argsOk "set_iterator.__iter__" ⟨[a],[]⟩:=u9
def pj:entryFor table "set.__iter__" = some Builtin.«frozenset.__iter__» :=
 entryFor_alias (id':="frozenset.__iter__") u9 rr S9 u9
noncomputable abbrev lC (M:Value)(i:Nat)(S:Addr)(n O:Nat):Obj:={ cls:=.type "set_iterator",data:=.fields #[M,.int i 0,.ref S,.int n 0,.int O 0] }
section
variable {prog:Program}{w:World}{A:Around}{E:QV}{s:Shared}{it S:Addr}{i ep:Nat}{o:Obj}{es:Array (Int×Value)}{t:SetTable}
def cJ (ho:s.heap.get? it=some (lC M i S n ep)):s.TypeIs (.ref it) "set_iterator":=⟨_,ho,rr⟩
def wz {k k':Nat}{x:Value}{Q:Option Value->Shared->Prop}(ho:s.heap.get? it=some (lC (.int k 0) i S es.size ep))
  (hS:s.heap.get? S=some o) (hd:o.data=.set es ep t) (hf:t.fits es.size=true)
  (O:∀(a:Around)(b:QV)(M:Option (Value×Nat)->Shared->Prop),M (some (x,k')) s->wpAny (model prog w) a (setNext S k i ep) M b s)
  (c:∀h',h'.get? it=some (lC (.int k' 0) (i+1) S es.size ep)->Heap.SameBut it s.heap h'->Q (some x) { s with heap:=h' }):
  wpAny (model prog w) A (pyNext (.ref it)) Q E s:=by
 refine wX (wpAny_attempt (wpAny_callSpecial?_slot (cJ ho) be
  (wpAny_call_entry be (cJ ho) dO ?_ (eW _))))
 show wpAny _ _ (fieldsOf _>>=_) _ _ s;refine wX (wpAny_fieldsOf ho rr ?_);refine wX (wpAny_setEntries_of hS hd hf ?_);rw[if_neg X9];refine wX (O _ _ _ ?_);refine wX (wpAny_setField_rec ho X9 λh1 e1 b1=>?_);refine wX (wpAny_setField_rec e1 X9 λh2 e2 b2=>?_);exact wY ⟨x,rr,wY (c h2 (by simpa [rawInt,lC]using e2) (b1.trans b2))⟩
def wA {k:Nat}{Q:Option Value->Shared->Prop}(hh:A.handled=none)(ho:s.heap.get? it=some (lC (.int k 0) i S es.size ep))
  (hS:s.heap.get? S=some o) (hd:o.data=.set es ep t) (hf:t.fits es.size=true)
  (O:∀(a:Around)(b:QV)(M:Option (Value×Nat)->Shared->Prop),M none s->wpAny (model prog w) a (setNext S k i ep) M b s)
  (c:∀h',Heap.ExtBut it s.heap h'->Q none { s with heap:=h' }):
  wpAny (model prog w) A (pyNext (.ref it)) Q E s:=by
 refine wX (wpAny_attempt (wpAny_callSpecial?_slot (cJ ho) be
  (wpAny_call_entry be (cJ ho) dO ?_ (eW _))))
 show wpAny _ _ (fieldsOf _>>=_) _ _ s;refine wX (wpAny_fieldsOf ho rr ?_);refine wX (wpAny_setEntries_of hS hd hf ?_);rw[if_neg X9];refine wX (O _ _ _ ?_);refine wX (wpAny_setField_rec ho X9 λh1 e1 b1=>?_);refine wX ?_;refine wX (m:=firstArgMember _ _) (wpAny_of_eq O9 ?_);refine wpAny_newObj_type ?_ w9;refine wX (wpAny_handled ?_);rw[show A.in1.handled=none from hh];refine wX (wY (wpAny_throw ?_));refine wX (wpAny_isInstance ⟨_,vY _ rr,rr⟩ isSubtype_stop ?_);exact wY (c _ ((b1.extBut.push _).push _))
def sK {T:Addr}{pl:LN}{p:Nat}{x:Int×Value}{nt:Nat}{Q:Option Value->Shared->Prop}(ho:s.heap.get? it=some (lC (.ref T) i S es.size ep))
  (M:s.heap.get? T=some (seqObj "tuple" (pl.map λ(p:Nat)=>Value.int p 0).toArray nt))
  (hS:s.heap.get? S=some o) (hd:o.data=.set es ep t) (hf:t.fits es.size=true) (hp:pl[i]? = some p) (hx:es[p]? = some x)
  (O:∀h',h'.get? it=some (lC (.ref T) (i+1) S es.size ep)->Heap.SameBut it s.heap h'->Q (some x.2) { s with heap:=h' }):
  wpAny (model prog w) A (pyNext (.ref it)) Q E s:=by
 refine wX (wpAny_attempt (wpAny_callSpecial?_slot (cJ ho) be
  (wpAny_call_entry be (cJ ho) dO ?_ (eW _))))
 show wpAny _ _ (fieldsOf (.ref it)>>=_) _ _ s;refine wX (wpAny_fieldsOf ho rr ?_);refine wX (wpAny_setEntries_of hS hd hf ?_);rw[if_neg X9];refine wX (wpAny_seqItems M rr ?_);have e1:(pl.map λ(p:Nat)=>Value.int p 0).toArray[(i:Int).toNat]? = some (.int p 0):=by simp[hp]
 dsimp only;rw[e1];have e2:wpAny (model prog w) A.in1 (setNextDrawn S (p:Int).toNat (ep:Int).toNat) (λy s'=>y=x.2/\s'=s) (λ_ _=>False) s:=by
  refine wX (wpAny_setState_of hS hd hf ?_);simp_all[wY]
 refine wX (wpAny_mono e2 (λy s' hy=>?_) λ_ _ z=>z.elim);obtain⟨rfl,rfl⟩:=hy;refine wX (wpAny_setField_rec ho X9 λh1 e1 b1=>?_);exact wY ⟨_,rr,wY (O h1 (by simpa [rawInt,lC]using e1) b1)⟩
def sM {T:Addr}{pl:LN}{nt:Nat}{Q:Option Value->Shared->Prop}(hh:A.handled=none)(ho:s.heap.get? it=some (lC (.ref T) i S es.size ep))
  (M:s.heap.get? T=some (seqObj "tuple" (pl.map λ(p:Nat)=>Value.int p 0).toArray nt))
  (hS:s.heap.get? S=some o) (hd:o.data=.set es ep t) (hf:t.fits es.size=true) (hp:pl[i]? = none)
  (O:∀h',Heap.ExtBut it s.heap h'->Q none { s with heap:=h' }):
  wpAny (model prog w) A (pyNext (.ref it)) Q E s:=by
 refine wX (wpAny_attempt (wpAny_callSpecial?_slot (cJ ho) be
  (wpAny_call_entry be (cJ ho) dO ?_ (eW _))))
 show wpAny _ _ (fieldsOf _>>=_) _ _ s;refine wX (wpAny_fieldsOf ho rr ?_);refine wX (wpAny_setEntries_of hS hd hf ?_);rw[if_neg X9];refine wX (wpAny_seqItems M rr ?_);have e1:(pl.map λ(p:Nat)=>Value.int p 0).toArray[(i:Int).toNat]? = none:=by simpa using hp
 dsimp only;rw[e1];refine wX (wpAny_setField_rec ho X9 λh0 a b=>?_);refine wX (wpAny_setField_rec a X9 λh1 e1 b1=>?_);refine wX ?_;refine wX (m:=firstArgMember _ _) (wpAny_of_eq O9 ?_);refine wpAny_newObj_type ?_ w9;refine wX (wpAny_handled ?_);rw[show A.in1.handled=none from hh];refine wX (wY (wpAny_throw ?_));refine wX (wpAny_isInstance ⟨_,vY _ rr,rr⟩ isSubtype_stop ?_);exact wY (O _ (((b.trans b1).extBut.push _).push _))
def y4 (ho:s.heap.get? it=some (lC M i S n ep))(h:Q (.ref it) s):wpAny (model prog w) A (pyIter (.ref it)) Q E s:=by
 refine wpAny_pyIter_slot (cJ ho) lm (wpAny_call_entry lm (cJ ho) qp ?_ (sJ _));exact wY ⟨_,rr,"set_iterator",_,cJ ho,be.lookup,h⟩
end
section
variable {prog:Program}{w:World}{A:Around}{E:QV}{s:Shared}{it S:Addr}{i k ep:Nat}{o:Obj}{es:Array (Int×Value)}{t:SetTable}
def tO (hS:s.heap.get? S=some o)(hd:o.data=.set es ep t)(hf:t.fits es.size=true)(hb:w.params.followText "set-order" = true)
  (h:Q (((pickOrder (w.params.setOrder S ep) es)[i]?).map λe=>(e.2,k)) s):wpAny (model prog w) A (setNext S k i ep) Q E s:=by
 refine wX (wpAny_setState_of hS hd hf ?_);show wpAny _ _ (if w.params.followText _=true then _ else _) _ _ _;rw[if_pos hb,if_neg X9];refine wX (wX (wpAny_setState_of hS hd hf ?_));show wpAny _ _ (if w.params.followText _=true then _ else _) _ _ _;rw[if_pos hb];refine wX (wpAny_askSetting (wY ?_));exact wY h
def qq (hS:s.heap.get? S=some o)(hd:o.data=.set es ep t)(hf:t.fits es.size=true)(hb:w.params.followText "set-order" = false)(hl:t.led=true)(hz:(!t.plain && decide (es.size > 1))=false)
  (h:Q (match es[SetTable.below t.place k]?,t.place[SetTable.below t.place k]? with
   |some (_,x),some j=>some (x,j+1)
   |_,_=>none) s):wpAny (model prog w) A (setNext S k i ep) Q E s:=by
 refine wX (wpAny_setState_of hS hd hf ?_);show wpAny _ _ (if w.params.followText _=true then _ else _) _ _ _;rw[if_neg (by rw[hb];simp)];show wpAny _ _ (if(!t.plain && decide _)=true then _ else _) _ _ _;rw[if_neg (by rw[hz];simp)];show wpAny _ _ ((if(!t.led && !es.isEmpty)=true then unsupported _ else pure ())>>=_) _ _ _;rw[hl];exact wY h
def tP (hh:A.handled=none)(hd:o.data=.set es ep t)(hf:t.fits es.size=true)(d:S≠it)(vs:LU)(hv:vs.length=es.size)(sl:Nat->Nat)
  (f:∀i x,vs[i]? = some x->∀(O:Around)(a:QV)(s:Shared)(M:Option (Value×Nat)->Shared->Prop),s.heap.get? S=some o->M (some (x,sl (i+1))) s->wpAny (model prog w) O (setNext S (sl i) i ep) M a s)
  (g:∀(O:Around)(a:QV)(s:Shared)(M:Option (Value×Nat)->Shared->Prop),s.heap.get? S=some o->M none s->wpAny (model prog w) O (setNext S (sl es.size) es.size ep) M a s):
  Walks prog w A it [it,S] [it] es.size (λi v=>vs[i]? = some v) (λi h=>h.get? it=some (lC (.int (sl i) 0) i S es.size ep)/\h.get? S=some o) where
 sub:=λb hb=>by simp at hb;simp[hb]
 frame:=λ_ _ _ st hk=>⟨hk it X9 _ st.1,hk S X9 _ st.2⟩
 item:=λi s Q E hi st c=>by
  obtain⟨x,hx⟩:∃x,vs[i]? = some x:=⟨_,vU (by omega)⟩;refine wz st.1 st.2 hd hf (λO a M q=>f i x hx O a s M st.2 q) λh' h1 h2=>?_;exact c x h' _ hx ⟨h1,h2.extBut S _ d st.2⟩ λb u hb e=>h2.extBut b u (λz=>hb (by simp[z])) e
 done:=λs Q E st c=>wA hh st.1 st.2 hd hf (λO a M q=>g O a s M st.2 q) λh' h1=>c h' _ λb u hb e=>h1 b u (λz=>hb (by simp[z])) e
 self:=λ_ _ _ _ st c=>y4 st.1 c
def Bb {T:Addr}{pl:LN}{nt:Nat}(hh:A.handled=none)(hd:o.data=.set es ep t)(hf:t.fits es.size=true)(c:S≠it)(a:T≠it)(hp:pl.Perm (List.range es.size)):
  Walks prog w A it [it,S,T] [it] es.size (λi v=>(pl.map λp=>(es.getD p (0,.none)).2)[i]? = some v)
   (λi h=>h.get? it=some (lC (.ref T) i S es.size ep)/\h.get? S=some o/\h.get? T=some (seqObj "tuple" (pl.map λ(p:Nat)=>Value.int p 0).toArray nt)) where
 sub:=λb hb=>by simp at hb;simp[hb]
 frame:=λ_ _ _ st hk=>⟨hk it X9 _ st.1,hk S X9 _ st.2.1,hk T X9 _ st.2.2⟩
 item:=λi s Q E hi st M=>by
  have O:pl.length=es.size:=by rw[hp.length_eq,length_range]
  obtain⟨p,hx⟩:∃p,pl[i]? = some p:=⟨_,vU (by omega)⟩;have d:=mem_range.mp (hp.mem_iff.mp (vL hx));have he:es[p]? = some (es.getD p (0,.none)):=by simp_all
  refine sK st.1 st.2.2 st.2.1 hd hf hx he λh' h1 h2=>?_;exact M _ h' _ (by simp[hx]) ⟨h1,h2.extBut S _ c st.2.1,h2.extBut T _ a st.2.2⟩ λb u hb e=>h2.extBut b u (λz=>hb (by simp[z])) e
 done:=λs Q E st M=>by
  have O:pl.length=es.size:=by rw[hp.length_eq,length_range]
  exact sM hh st.1 st.2.2 st.2.1 hd hf (getElem?_eq_none (by omega)) λh' h1=>M h' _ λb u hb e=>h1 b u (λz=>hb (by simp[z])) e
 self:=λ_ _ _ _ st M=>y4 st.1 M
end
def Bc {α:Type}(es:Array α)(d:α):(List.range es.size).map (λp=>es.getD p d)=es.toList:=by
 apply ext_getElem?;intro i;by_cases h:i<es.size
 .simp_all
 .simp[h]
section
variable {prog:Program}{w:World}{A:Around}{E:QV}{s:Shared}
def Iu {κ:Type}[DecidableEq κ]{kd:PySem.KeyKind prog w κ}{kf:Value->κ}{mk:κ->Tok->Value}(H:KOf kd kf mk){S:Addr}{f:List κ}{Q:QV}(hS:ib kd kf s.heap S f)
  (l:∀(h':Heap)(d:Drawn)(it:Addr)(vs:LU)(fp:List Addr)(St:Nat->Heap->Prop),(∀a,a.handled=none->Walks prog w a it fp [it] f.length (λi v=>vs[i]? = some v) St)->St 0 h' ->
   (∀b u,s.heap.get? b=some u->h'.get? b=some u)->s.z<=it->(∀b∈fp,b=S\/s.z<=b)->vs.length=f.length->(vs.map kf).Perm f->(∀v∈vs,∃x t,v=mk x t) ->
   Q (.ref it) { s with heap:=h',drawn:=d }):wpAny (model prog w) A (pyIter (.ref S)) Q E s:=by
 refine cX λW Y=>?_;obtain⟨o,es,c,t,ho,I,hd,J,hp,nd,hb,hf,K,z⟩:=hS;apply Y;clear Y;have sz:es.size=f.length:=by rw[<-hp.length_eq,vI,vG]
 have B:S<s.z:=vX ho;have g:s.TypeIs (.ref S) "set":=⟨_,ho,I.1⟩;have C:∀e∈es.toList,∃x t,e.2=mk x t:=λe he=>by
  obtain⟨⟨k,hk,_⟩,_⟩:=J e he;obtain⟨t,q⟩:=H.of hk;exact⟨k,t,q⟩
 refine wpAny_pyIter_slot g slot_set_iter (wpAny_call_entry slot_set_iter g pj ?_ (PySem.F.args_set_iter_1 _));show wpAny _ _ (Builtin.Frozenset.sizeOf S>>=_) _ _ s;unfold Builtin.Frozenset.sizeOf;refine wX (wX (wpAny_setEntries_of ho hd hf (wY ?_)));unfold setDrawn setsByText;refine wX (wX (wpAny_setState_of ho hd hf ?_));dsimp only;refine wX (wX (wpAny_askSetting (wY (wY ?_))));show wpAny _ _ (if(!w.params.followText "set-order" && (!t.plain && decide (es.size > 1)))=true then _ else _) _ _ _;have m:(es.toList.map (·.2)).map kf=es.toList.map (λe=>kf e.2):=by rw[uP];rfl
 by_cases M:w.params.followText "set-order" = true
 .rw[if_neg (by rw[M];simp)];refine wX (wY ?_);refine wX (wpAny_setEpoch_of ho hd hf ?_);have pp:=F8 (w.params.setOrder S c) es;have D:((pickOrder (w.params.setOrder S c) es).toList.map (·.2)).length=es.size:=by rw[vI,pp.length_eq,vG]
  refine wX (wpAny_newObj_type (wY ⟨_,rr,"set_iterator",_,⟨_,vY _ rr,rr⟩,be.lookup,?_⟩));refine l _ s.drawn s.z ((pickOrder (w.params.setOrder S c) es).toList.map (·.2)) [s.z,S] (λi h=>h.get? s.z=some (lC (.int ((λ_=>0:Nat->Nat) i:Nat) 0) i S es.size c)/\h.get? S=some o) (λa j=>?_) ?_ (λb u e=>vZ _ e) (vT _) (λb hb=>?_) (D.trans sz) ?_ ?_
  .rw[<-sz];exact tP j hd hf (vS B) _ D (λ_=>0) (λi x hx a n s r h1 h2=>tO h1 hd hf M (by
    rw[vA,Array.getElem?_toList]at hx;obtain⟨e,he,rfl⟩:=oY hx;rw[he];exact h2)) (λa n s r h1 h2=>tO h1 hd hf M (by
    simp_all))
  .exact⟨vY _ rr,vZ _ ho⟩
  .grind
  .refine List.Perm.trans ?_ hp;rw[<-m];exact(pp.map _).map _
  grind
 .rw[Bool.not_eq_true]at M;have hl:t.led=true:=by rw[K,M];rfl
  by_cases h1:(!t.plain && decide (es.size > 1))=false
  .rw[if_neg (by rw[h1];simp)];refine wX (wY ?_);refine wX (wpAny_setEpoch_of ho hd hf ?_);refine wX (wpAny_newObj_type (wY ⟨_,rr,"set_iterator",_,⟨_,vY _ rr,rr⟩,be.lookup,?_⟩));have G:∀i,i<=es.size->SetTable.below t.place (if i=0 then 0 else t.place.getD (i - 1) 0+1)=i:=λi hi=>by
    by_cases h0:i=0
    .rw[if_pos h0,AY z,h0]
    .rw[if_neg h0,AX z (i:=i - 1) (by rw[Array.getD_eq_getD_getElem?,Array.getElem?_eq_getElem (by have:t.place.size=es.size:=by { simp only[SetTable.fits,vC,beq_iff_eq,decide_eq_true_eq]at hf;exact hf.1 };omega)];rfl)];omega
   have L:t.place.size=es.size:=by
    simp_all[SetTable.fits]
   refine l _ s.drawn s.z (es.toList.map (·.2)) [s.z,S] (λi h=>h.get? s.z=some (lC (.int ((λi=>if i=0 then 0 else t.place.getD (i - 1) 0+1:Nat->Nat) i:Nat) 0) i S es.size c)/\h.get? S=some o) (λa j=>?_) ?_ (λb u e=>vZ _ e) (vT _) (λb hb=>?_) (by simp_all) (by rw[m];exact hp) ?_
   .rw[<-sz];refine tP j hd hf (vS B) _ X9 (λi=>if i=0 then 0 else t.place.getD (i - 1) 0+1) (λi x hx a n s r y q2=>qq y hd hf M hl h1 ?_) (λa n s r y q2=>qq y hd hf M hl h1 ?_)
    .rw[G i (by have:=(vV hx).1;simp at this;omega)];rw[vA,Array.getElem?_toList]at hx;obtain⟨e,he,rfl⟩:=oY hx;have hi:=(Array.getElem?_eq_some_iff.mp he).1;simp_all
    .rw[G es.size (vT _),Array.getElem?_eq_none (vT _)];exact q2
   .exact⟨vY _ rr,vZ _ ho⟩
   .grind
   .intro v hv;obtain⟨e,he,rfl⟩:=vO hv;exact C e he
  .rw[if_pos (by rw[M];simpa using h1)];refine wX (C0 es.size (List.range es.size) _ _ X9 λpl d pp=>?_);refine wX (wpAny_newTuple ?_ (by rw[vI,pp.length_eq,length_range,sz];exact fits_of_scanBound hb));refine wX (wpAny_setEpoch_of (vZ _ ho) hd hf ?_);refine wX (wpAny_newObj_type (wY ⟨_,rr,"set_iterator",_,⟨_,vY _ rr,rr⟩,be.lookup,?_⟩));have hsz:(s.heap.push (seqObj "tuple" (pl.map λ(p:Nat)=>Value.int p 0).toArray 0)).objs.size=s.z+1:=size_push' _ _;have O:((pl.map λp=>(es.getD p (0,.none)).2)).Perm (es.toList.map (·.2)):=by
    have:=(pp.map λp=>es.getD p (0,Value.none)).map (·.2);rw[Bc]at this;rw[uP]at this;exact this
   refine l _ d _ (pl.map λp=>(es.getD p (0,.none)).2) [(s.heap.push (seqObj "tuple" (pl.map λ(p:Nat)=>Value.int p 0).toArray 0)).objs.size,S,s.z] (λi h=>h.get? (s.heap.push (seqObj "tuple" (pl.map λ(p:Nat)=>Value.int p 0).toArray 0)).objs.size=some (lC (.ref s.z) i S es.size c)/\h.get? S=some o/\h.get? s.z=some (seqObj "tuple" (pl.map λ(p:Nat)=>Value.int p 0).toArray 0)) (λa j=>?_) ?_ (λb u e=>vZ _ (vZ _ e)) ?_ (λb hb=>?_) ?_ ?_ ?_
   .rw[<-sz];exact Bb (nt:=0) j hd hf (by simp_all[vS,lt_succ_of_lt]) X9 pp
   .exact⟨vY _ rr,vZ _ (vZ _ ho),vZ _ (vY _ rr)⟩
   .simp
   .grind
   .rw[O.length_eq,vI,vG,sz]
   .exact((O.map kf).trans (by rw[m])).trans hp
   .intro v hv;obtain⟨e,he,rfl⟩:=vO (O.mem_iff.mp hv);exact C e he
end
def F9 (h:ItemsOf (λi v=>vs[i]? = some v) M vs.length):M.toList=vs:=by
 apply ext_getElem?;intro i;by_cases hi:i<M.size
 .have e:=Array.getElem?_eq_getElem hi;rw[Array.getElem?_toList,e,h.2 i _ e]
 .rw[getElem?_eq_none (by rw[vG];omega),getElem?_eq_none (by rw[<-h.1];omega)]
section
variable {prog:Program}{w:World}{A:Around}{E:QV}{s:Shared}{κ:Type}[DecidableEq κ] {kd:PySem.KeyKind prog w κ}{kf:Value->κ}{mk:κ->Tok->Value}
def y6 (p:KOf kd kf mk)(hh:A.handled=none)(hS:ib kd kf s.heap S ts)
  (q:∀s' vs,(∀b u,s.heap.get? b=some u->s'.heap.get? b=some u)->s'.gens=s.gens->s'.os=s.os->vs.length=ts.length->(vs.map kf).Perm ts->(∀v∈vs,∃x t,v=mk x t)->Q vs s'):
  wpAny (model prog w) A (collect (.ref S)) Q E s:=by
 have M:∀(s1:Shared),ib kd kf s1.heap S ts->s1.TypeIs (.ref S) "set":=λs1 h=>by
  obtain⟨o,_,_,_,ho,r,_⟩:=h;exact⟨o,ho,r.1⟩
 have y:S<s.z:=by obtain⟨o,_,_,_,ho,_⟩:=hS;exact vX ho
 have B:ts.length<scanBound:=by obtain⟨_,_,_,_,_,_,_,_,_,_,h,_⟩:=hS;exact h
 unfold collect;refine wX (wpAny_runValue (codeAny_builtin PySem.F.entry_proto_collect ?_));refine wX (wpAny_newObj_type ?_);refine wY ⟨plainId_quiet PySem.F.plain_list_iadd _,codeAny_builtin PySem.F.entry_list_iadd ?_⟩;rw[Around.under_plainId PySem.F.plain_list_iadd _];show wpAny _ A.in1 (Builtin.List.listExtendWith (.ref s.z) (.ref S) (.ref s.z)) _ _ _;unfold Builtin.List.listExtendWith;have a:ib kd kf (s.heap.push { cls:=.type "list",data:=.seq ([]:LU).toArray }) S ts:=hS.at λo e=>vZ _ e;refine wX (wpAny_typeOf (M _ a) ?_);have C:s.z≠S:=ne_of_gt y;have h1:Builtin.List.listSameRef (.ref s.z) (.ref S)=false:=by simp[Builtin.List.listSameRef,C]
 have h2:(Value.type "set" == Value.type "list")=false:=H9
 have h3:(Value.type "set" == Value.type "tuple")=false:=H9
 simp only[h1,h2,h3,Bool.or_false,uV,if_false];refine wX (Iu p a λh' d it vs fp St W D hk GI G k H I=>?_);have g:ib kd kf h' S ts:=a.at λo e=>hk _ _ e;refine wX (wpAny_holding ?_);unfold Builtin.List.listLengthHint;refine wX (wpAny_specialOf (M _ g) PySem.F.slot_set_len.lookup ?_);wp_delta;refine wX (wpAny_isInstance (M _ g) sub_set_self ?_);show wpAny _ A.in1 (typeOf (Value.ref S)>>=_) _ _ _;refine wX (wpAny_typeOf (M _ g) ?_);refine wY ?_;rw[if_pos H9];refine wX (wpAny_rule ?_);refine wX ?_;have J:(s.heap.push { cls:=.type "list",data:=.seq ([]:LU).toArray }).objs.size=s.z+1:=size_push' _ _;have c:=hk _ _ (vY _ rr);refine wX (wpAny_updateSeq c rr ?_);have f:=Heap.get?_update_self (Obj.mapSeq (·.push Value.none)) c rr;refine wpAny_updateSeq f rr ?_;have i:=Heap.get?_update_self (Obj.mapSeq (·.pop)) f rr;have l:s.z∉fp:=λhm=>by
  grind
 have m:∀b u,b≠s.z->h'.get? b=some u ->
   ((h'.update s.z (Obj.mapSeq (·.push Value.none))).update s.z (Obj.mapSeq (·.pop))).get? b=some u:=
  λb u hb e=>(Heap.get?_update_other _ _ (Ne.symm hb)).trans ((Heap.get?_update_other _ _ (Ne.symm hb)).trans e)
 have n:=W A.in1 hh;refine wY ⟨plainId_quiet plain_extend_loop _,codeAny_extend_loopS n.toS (fits_of_scanBound B) _ l _ ts.length 0 _ _ _ rr (uN _)
  (n.frame 0 _ _ D λb hb u e=>m b u (λz=>l (z ▸ hb)) e) i (ItemsOf.nil _) λs' K L hm j O=>?_⟩
 show wpAny _ A (load s.z>>=_) _ _ s';refine wX (wpAny_load j ?_);rw[<-k]at O;refine wY ?_;show Q K.toList s';rw[F9 O];refine q s' vs (λb u e=>hm.heap b u (λhb=>?_) (m b u (vS (vX e)) (hk _ _ (vZ _ e)))) hm.gens hm.os k H I;have hl:=vX e;simp_all<;>lia
def C2 (prog:Program)(w:World)(kf:Value->κ)(mk:κ->Tok->Value)(R:List κ->LU->Prop):Prop:=∀ {E:QV}{M:List κ}{vs:LU}{A:Around}{s:Shared}{a:Addr}{P},(∀v∈vs,∃x t,v=mk x t)->(vs.map kf).Perm M->vs.length<64 ->
 s.heap.get? a=some (seqObj "list" vs.toArray 0)->(∀out:AV,R M out.toList->P (.done (.ret .none)) { s with heap:=sortedHeap s.heap a vs out })->wpAny (model prog w) A (Builtin.«list.sort» ⟨[.ref a],[]⟩) P E s
def Bd (f:KOf kd kf mk)(g:C2 prog w kf mk R)(hh:A.handled=none)(hS:ib kd kf s.heap S ts)(h:ts.length<64)
  (i:∀(s1:Shared)(h':Heap)(a:Addr)(out:AV)(n:Nat),(∀b u,s.heap.get? b=some u->s1.heap.get? b=some u)->s1.os=s.os->s1.gens=s.gens->(∀b u,s1.heap.get? b=some u->h'.get? b=some u)->s1.z<=a->h'.get? a=some (seqObj "list" out n) ->
   R ts out.toList->Q (.ref a) { s1 with heap:=h' }):
  wpAny (model prog w) A (call (.builtin "sorted") [.ref S]) Q E s:=by
 refine Calls.call_function_entry kind_sorted plain_sorted entry_sorted (args_sorted1 _) ?_;unfold Builtin.«sorted»;refine wX (m:=checkCount "sorted" 1 1 _) (wY ?_);refine wX (y6 f (A:=A.in1) (by exact hh) hS λs1 vs hk j c d M k=>?_);refine wX (wpAny_newList ?_ (by rw[d,sizeLine_eq];omega));have O:(s1.heap.push (seqObj "list" vs.toArray 0)).get? s1.z=some (seqObj "list" vs.toArray 0):=vY _ rr;show wpAny _ _ _ _ _ { s1 with heap:=s1.heap.push (seqObj "list" vs.toArray 0) };refine wX (wpAny_holding (wpAny_call_entry slot_list_sort ⟨_,O,rr⟩ entry_list_sort (g k M (by rw[d];exact h) O λout hr=>⟨_,rr,?_⟩) (args_list_sort _)));obtain⟨e,he⟩:=sortedHeap_at (out:=out) O;refine wY ⟨_,rr,i s1 _ _ _ e hk c j (λb u q=>?_) (vT _) he hr⟩;have hl:=vX q;rw[sortedHeap_old (vS hl) (by simp_all[lt_succ_of_lt])];exact vZ _ q
end
end DL
namespace DL
open PySem PySem.Spec PyProof.Rows L2
def y7 (a b:Str):Prop:=¬b.cps.toList<a.cps.toList
def C3:ltCps b.cps.toList a.cps.toList=false↔y7 a b:=by rw[ltCps_eq,decide_eq_false_iff_not];rfl
def tQ (h:y7 a b)(k:y7 b c):y7 a c:=by
 grind[y7]
def Iv (h:y7 a b)(k:y7 b a):a=b:=by
 have e:=List.le_antisymm (not_lt.mp h) (not_lt.mp k);obtain⟨a⟩:=a;simp_all
noncomputable def Be (x:Str):LS->LS
 |[]=>[x]
 |y::r=>if ltCps y.cps.toList x.cps.toList then y::Be x r else x::y::r
def mD (l:LS):LS:=l.foldr Be []
theorem nR (x:Str):∀l,(Be x l).Perm (x::l)
 |[]=>List.Perm.refl _
 |y::r=>by
  unfold Be;split
  .exact((nR x r).cons y).trans (List.Perm.swap x y r)
  rfl
theorem cK:∀l,(mD l).Perm l
 |[]=>List.Perm.refl _
 |x::l=>(nR x _).trans ((cK l).cons x)
theorem tR (x:Str):∀l,l.Pairwise y7->(Be x l).Pairwise y7
 |[],_=>by simp[Be]
 |y::r,h=>by
  obtain⟨h1,h2⟩:=pairwise_cons.mp h;unfold Be;split
  .rename_i hl;refine pairwise_cons.mpr ⟨λz hz=>?_,tR x r h2⟩;rcases vP ((nR x r).mem_iff.mp hz)with rfl|hz
   .rw[ltCps_eq,decide_eq_true_eq]at hl;exact λk=>lt_irrefl _ (lt_trans hl k)
   simp_all
  .rename_i hl;rw[Bool.not_eq_true]at hl;have M:=C3.mp hl;refine pairwise_cons.mpr ⟨λz hz=>?_,h⟩;rcases vP hz with rfl|hz
   .exact M
   .exact tQ M (h1 z hz)
theorem qr:∀l,(mD l).Pairwise y7
 |[]=>List.Pairwise.nil
 |x::l=>tR x _ (qr l)
theorem oH:∀(l:LS)(p:Str),risingS p l=true->(p::l).Pairwise y7
 |[],p,_=>List.pairwise_singleton _ _
 |x::r,p,h=>by
  have h':(!ltCps _ _ && risingS x r)=true:=h;rw[vC]at h';have M:=C3.mp (by simpa using h'.1);have O:=oH r x h'.2;refine pairwise_cons.mpr ⟨λz hz=>?_,O⟩;rcases vP hz with rfl|hz
  .exact M
  .exact tQ M ((pairwise_cons.mp O).1 z hz)
theorem y8:∀(l:LS),sortedS l=true->l.Pairwise y7
 |[],_=>List.Pairwise.nil
 |x::r,h=>oH r x h
def y9 (a:Str):y7 a a:=lt_irrefl _
theorem qt:∀(l1 l2:LS),l1.Perm l2->l1.Pairwise y7->l2.Pairwise y7->l1=l2
 |[],l2,p,_,_=>(nil_perm.mp p).symm
 |x::r1,[],p,_,_=>absurd p.length_eq X9
 |x::r1,y::a,p,h1,h2=>by
  have M:y7 x y:=by
   rcases vP (p.mem_iff.mpr (mX ..))with z|z
   .rw[z];exact y9 _
   simp_all
  have O:y7 y x:=by
   rcases vP (p.mem_iff.mp (mX ..))with z|z
   .rw[z];exact y9 _
   simp_all
  have e:=Iv M O;subst e;rw[qt r1 a (List.Perm.cons_inv p) (pairwise_cons.mp h1).2 (pairwise_cons.mp h2).2]
def FC (p:M.Perm l)(h:sortedS M=true):M=mD l:=qt _ _ (p.trans (cK l).symm) (y8 _ h) (qr l)
section
variable {X:Cx}
noncomputable def qu {prog:Program}{w:World}{κ:Type}[DecidableEq κ](kd:PySem.KeyKind prog w κ)(kf:Value->κ)(S:Addr)(M:List κ):HO:=.ext λh=>ib kd kf h S M
def nU (I:Inv X af σ H s)(k:∀b u,s.heap.get? b=some u->s1.heap.get? b=some u)(ho:s1.os=s.os)(O:s1.gens=s.gens):Inv X af σ H s1:=by
 have a:=I.step (d':=s1.drawn) (t':=s1.toks) (ch:=[]) (λ_ z=>nomatch z) (λb o _ _ _ e _=>k b o e) (λb o _ _ _ e _=>⟨o.slots,k b o e⟩) (λ_ _ _ _ n=>n)
  (λb o _ e=>⟨o,k b o e⟩) (λ_ _ e=>e) (λ_ _ _ e=>e) (λ_ _ e=>e) (λm hm=>?_) (I.hok.kept k) I.bare
 .obtain⟨h1,g1,d1,c,d⟩:=s1;simp_all
 .obtain⟨o,es,M,ho,r⟩:=hm;exact⟨o,es,M,k _ o ho,r⟩
variable {κ:Type}[DecidableEq κ] {kd:PySem.KeyKind X.prog X.w κ}{kf:Value->κ}{mk:κ->Tok->Value}{sf:List κ->List κ}{mv:κ->V}
def Iw (mk:κ->Tok->Value)(its:LU)(ss:List κ):Prop:=its.length=ss.length/\∀(i:Nat)(v:Value),its[i]? = some v->∃x t,v=mk x t/\ss[i]? = some x
def jC (a:KOf kd kf mk)(hc:X.calm=true):bu X (.type "set") (λxs H Q=>∃p ys ss,xs=[.ref p]/\fF X.K H p ys/\(∀its,aL ys its->Iw mk its ss)/\ss.length<4000/\∀S,H S=none->Q (.ref S) (upd H S (qu kd kf S (dG ss)))):=by
 intro af s σ H xs us Q I r h;obtain⟨p,ys,ss,rfl,hq,hs,f,q⟩:=h;obtain⟨u,rfl,c⟩:=eB r;cases c
 refine I.lisE hq λits d pl hz=>?_;obtain⟨M,O⟩:=hs _ d;refine sG a (I.ok.hd hc) pl.isList (by simpa using O) (by simp[M]) (by grind[scanBound]) λh' tk hS hk=>?_;refine⟨.ref _,_,I.laid (λb u e=>hk b u (vX e) e) (vT _) ?_,rr,q _ (I.hok.fresh (vT _))⟩;refine⟨hS,?_,λh1 h2 z k=>z.at k⟩;obtain⟨o,_,_,_,ho,_⟩:=hS;exact⟨o,ho⟩
def pq (c:KOf kd kf mk)(d:C2 X.prog X.w kf mk λM=>aL ((sf M).map mv))(sl:∀M,(sf M).length=M.length)(hc:X.calm=true):bu X (.builtin "sorted") (λxs H Q=>∃S M,xs=[.ref S]/\H S=some (qu kd kf S M)/\M.length<64/\∀l,H l=none->Q (.ref l) (upd H l (.lst ((sf M).map mv)))):=by
 intro af s σ H xs us Q I r h;obtain⟨S,M,rfl,hS,O,q⟩:=h;obtain⟨u,rfl,e⟩:=eB r;cases e
 refine Bd c d (I.ok.hd hc) (I.hok S _ hS).1 O λs1 h' a out n k1 ho f k2 hp he hv=>?_;have b:=nU I k1 ho f;refine⟨.ref a,_,b.laid k2 hp (show bj _ _ _ h' _ (.lst _)from ⟨?_,out.toList,n,hv,he⟩),rr,q _ (b.hok.fresh hp)⟩;rw[vI,sl,sizeLine_eq];lia
end
def koS {prog:Program}{w:World}:KOf (PySem.strKind prog w) strOf .str:=⟨strKind_is _ w,λh=>Value.isStrOf_shape h,λ_ _=>rr,λ_ _=>rr⟩
theorem tS:∀ {its:LU}{zs:LS},StrsAre its zs->aL (zs.map V.str) its
 |_,_,.nil=>.nil
 |_,_,.cons x t r=>.cons ⟨t,rr⟩ (tS r)
def soS {prog:Program}{w:World}:C2 prog w strOf .str λb=>aL ((mD b).map V.str):=λh1 h2 h3 ho h=>by
 have M:=strsAre_map _ h1;refine list_sort_treeK strKind_oneLt ho M.keysOf (λO a aj e=>keyKind_strs (by rw[<-e];exact M)) h3 λg c d=>?_;obtain⟨f,b1,b2,b3⟩:=sorted_out_str M c d;have e:=FC (b2.trans h2) b3;subst e;exact h _ (tS b1)
def FD (M:LS):(mD M).length=M.length:=(cK M).length_eq
def StrsAre.keys (h:StrsAre its ss):Iw .str its ss:=⟨by rw[<-h.strs,vI],StrsAre.at h⟩
@[simp] def mE:D->OB
 |.lst ds=>(eC ds).bind λss=>if ss.length<64 then some (.lst ((mD (dG ss)).map .str),true)else none
 |_=>none
@[simp] def wB:D->OB
 |.lst ds=>(eC ds).bind λss=>if ss.length<4000 then some (.int ((dG ss).length:Nat),false)else none
 |_=>none
def yA:bootBuiltins "sorted" = some (.builtin "sorted"):=S9
def Ix:bootBuiltins "set" = some (.type "set"):=S9
theorem yB {K:Frag}{N:Hp}:∀(zs:LS),IsL K N (zs.map V.str) (zs.map D.str)
 |[]=>.nil
 |z::zs=>.cons (.str z) (yB zs)
@[simp] def OS {κ:Type}[DecidableEq κ](M:LD->Option (List κ))(O:List κ->List κ)(a:κ->D):D->OB
 |.lst ds=>(M ds).bind λss=>if ss.length<64 then some (.lst ((O (dG ss)).map a),true)else none
 |_=>none
section
variable {X:Cx}{e:Expr}{pos pos2 p p2:Pos}{κ:Type}[DecidableEq κ] {kd:PySem.KeyKind X.prog X.w κ}{kf:Value->κ}{mk:κ->Tok->Value}{sf:List κ->List κ}{mv:κ->V}{md:κ->D}{ef:LD->Option (List κ)}
def Iy (i:KOf kd kf mk)(j:C2 X.prog X.w kf mk λa=>aL ((sf a).map mv))(sl:∀a,(sf a).length=a.length)(im:∀ {N:Hp}(zs:List κ),IsL X.K N (zs.map mv) (zs.map md))(ka:∀ {B ys ds its ss},aL ys its->IsL X.K B ys ds->ef ds=some ss->Iw mk its ss)
  (hc:X.calm=true) (m1:X.mg "sorted" = none) (m2:X.mg "set" = none) (he:JE X e f) (g1:Gl X "sorted":=by rfl) (k:Gl X "set":=by rfl)
  (h1:starEach [e] X.env=(false,eval e X.env)::starEach [] X.env:=by rfl):JE X (.Call (.Name "sorted" p) [.Call (.Name "set" p2) [e] [] pos2] [] pos) (f1 (OS ef sf md) f):=by
 refine PE.to (mm (pq i j sl hc) g1 m1 yA (cC (km (jC i hc) k m2 Ix (cC he dL h1) (he:=h1)) dL)) λσ H Q q=>?_;refine cX λG W=>?_;obtain⟨B,ρ,d',bb,m,r,M,q⟩:=q;refine eX M λc ex M=>?_;apply W;clear W;refine⟨B,ρ,c.1,c.2,m,r,ex,λv x N1 b i1 y=>?_⟩;obtain⟨xd,z⟩:=c;cases i1<;>try (simp[OS]at M;done)
 rename_i A vs ds h hl;refine eX M λss n M=>?_;split at M
 .rename_i s;cases M
  refine⟨_,_,ss,rr,b.nh.seq h,λits t=>ka t hl n,by omega,λS hS=>⟨S,_,rr,au,lt_of_le_of_lt (mB ss) s,λl O=>?_⟩⟩;have d:=Ext.laid (o:=qu kd kf S (dG ss)) b.nh hS;have u:=Ext.laid (o:=.lst ((sf (dG ss)).map mv)) d.nh O;have g:H l=none:=((b.trans d).hh).free O;exact q _ _ _ ((b.trans d).trans u) (.lst (fF.of au) (im _)) λ_=>⟨_,_,_,rr,rr,g,au,im _⟩
 simp_all
def Bf (hc:X.calm=true)(m1:X.mg "sorted" = none)(m2:X.mg "set" = none)(he:JE X e f)(g1:Gl X "sorted")(M:Gl X "set")
  (h1:starEach [e] X.env=(false,eval e X.env)::starEach [] X.env):JE X (.Call (.Name "sorted" p) [.Call (.Name "set" p2) [e] [] pos2] [] pos) (f1 mE f):=by
 exact Iy koS soS FD yB (λO hl a=>StrsAre.keys (iF O hl a)) hc m1 m2 he g1 M h1
end
end DL
namespace DL
open PySem PySem.Spec PySem.W PyProof.Rows
inductive Run (n:Nat)(lt:Nat->Nat->Bool){α:Type}:KasT α->α->Prop where
 |ret (a:α):Run n lt (.ret a) a
 |ask {i j:Nat}{k:Bool->KasT α}{a:α}(hi:i<n) (hj:j<n) (h:Run n lt (k (lt i j)) a):Run n lt (.ask i j k) a
def Run.bind {n:Nat}{lt:Nat->Nat->Bool}{α M:Type}{t:KasT α}{f:α->KasT M}{a:α}{b:M}(h:Run n lt t a)(k:Run n lt (f a) b):Run n lt (t.bind f) b:=by
 induction h with
 |ret a=>exact k
 |ask hi hj _ O=>exact .ask hi hj (O k)
def Run.wp {n:Nat}{lt:Nat->Nat->Bool}{α:Type}{M:Nat->Nat->(Bool->Shared->Prop)->Shared->Prop}{Q:α->Shared->Prop}{t:KasT α}{a:α}(J:Shared->Prop)
  (hc:∀i j C s,i<n->j<n->J s->(∀s',J s'->C (lt i j) s')->M i j C s) (h:Run n lt t a):∀ {s:Shared},J s->(∀s',J s'->Q a s')->t.kasWp M Q s:=by
 induction h with
 |ret a=>intro s O b;exact b s O
 |ask hi hj _ d=>intro s O b;exact hc _ _ _ _ hi hj O λs' c=>d c b
section
variable {n:Nat}{rk:Nat->Int}
noncomputable abbrev qw (rk:Nat->Int)(i j:Nat):Bool:=decide (rk i<rk j)
noncomputable def bK (rk:Nat->Int)(p:Array Nat)(k:Nat):Int:=rk (p.getD k 0)
structure pz (n:Nat)(p:Array Nat):Prop where
 size:p.size=n
 perm:p.toList.Perm (List.range n)
def pz.lt {p:Array Nat}(h:pz n p){k:Nat}(hk:k<n):p.getD k 0<n:=by
 have M:k<p.size:=by rw[h.size];exact hk
 have:p.getD k 0=p[k]:=by simp_all
 rw[this];exact mem_range.mp (h.perm.mem_iff.mp X9)
def pz.rev {p:Array Nat}(h:pz n p)(i j:Nat):pz n (kas_rev p i j):=
 ⟨(mirror_size _ _ _ _).trans h.size,(Array.perm_iff_toList_perm.mp (mirror_perm p i j _)).trans h.perm⟩
def pz.bub {p:Array Nat}(h:pz n p)(k d:Nat):pz n (bubble p k d):=
 ⟨(bubble_size _ _ _).trans h.size,(Array.perm_iff_toList_perm.mp (bubble_perm p k d)).trans h.perm⟩
def wC {p:Array Nat}{i j:Nat}(hj:j<=p.size)(k:Nat):bK rk (kas_rev p i j) k=if i<=k/\k<j then bK rk p (i+j - 1 - k)else bK rk p k:=by
 unfold bK kas_rev;rw[Array.getD_eq_getD_getElem?,getElem?_mirror_all hj];split<;>simp_all
def Iz {p:Array Nat}{M d:Nat}(hs:M<p.size)(hd:d<=M)(k:Nat):bK rk (bubble p M d) k=if k=M - d then bK rk p M else if M - d<k/\k<=M then bK rk p (k - 1)else bK rk p k:=by
 unfold bK;simp [Array.getD_eq_getD_getElem?];rw[getElem?_bubble hs d hd];repeat' split
 all_goals rfl
def Up (rk:Nat->Int)(p:Array Nat)(m:Nat):Prop:=∀i j,i<=j->j<m->bK rk p i<=bK rk p j
def wD (rk:Nat->Int)(p:Array Nat)(m:Nat):Prop:=∀i j,i<=j->j<m->bK rk p j<=bK rk p i
def R4 (p:Array Nat):Up rk p 1:=λi j h1 h2=>by
 simp_all
theorem wE {p:Array Nat}(h:pz n p){r:Nat}(hr:r<=n):∀(f m:Nat),r - m=f->1<=m->m<=r->Up rk p m->∃M,Run n (qw rk) (kas_asc p f m) M/\m<=M/\M<=r/\Up rk p M/\(M<r->bK rk p M<bK rk p (M - 1))
 |0,m,hf,h1,hm,hu=>⟨m,.ret m,vT _,hm,hu,λz=>by lia⟩
 |f+1,m,hf,h1,hm,hu=>by
  have b:=h.lt (k:=m) N9;have c:=h.lt (k:=m - 1) N9;by_cases hc:bK rk p m<bK rk p (m - 1)
  .refine⟨m,.ask b c ?_,vT _,hm,hu,λ_=>hc⟩;have:qw rk _ _=true:=mf hc;rw[this];exact .ret m
  .have O:Up rk p (m+1):=λi j a hj=>by
    by_cases e:j=m
    .subst e;by_cases e2:i=j
     .subst e2;exact Int.le_refl _
     .have:=hu i (j - 1) N9 N9;lia
    .exact hu i j a N9
   obtain⟨M,d,q2,g,l,o⟩:=wE h hr f _ N9 N9 N9 O;refine⟨M,.ask b c ?_,N9,g,l,o⟩;have:qw rk _ _=false:=oC hc;rw[this];exact d
def MJ (rk:Nat->Int)(p:Array Nat)(m q:Nat):Prop:=q+1<=m/\∀k,m - (q+1)<=k->k<m->bK rk p k=bK rk p (m - 1)
def yC {p:Array Nat}{m q:Nat}(hs:m<=p.size)(hf:MJ rk p m q)(k:Nat):bK rk (kas_rev p (m - (q+1)) m) k=bK rk p k:=by
 rw[wC hs];split
 .rename_i hk;rw[hf.2 k hk.1 hk.2,hf.2 _ N9 N9]
 .rfl
def C4 {p M:Array Nat}{m:Nat}(e:∀k,bK rk M k=bK rk p k)(h:wD rk p m):wD rk M m:=λi j h1 h2=>by rw[e,e];exact h i j h1 h2
def qx (p:Array Nat){m:Nat}(h:1<=m):MJ rk p m 0:=⟨h,λk h1 h2=>by
 grind⟩
theorem mF {r:Nat}(hr:r<=n):∀(f:Nat)(p:Array Nat)(m q:Nat),pz n p->r - m=f->1<=m->m<=r->wD rk p m->MJ rk p m q->∃M O a,Run n (qw rk) (kas_desc f p m q) (M,O,a)/\pz n M/\m<=O/\O<=r/\wD rk M O/\MJ rk M O a
 |0,p,m,q,h,hf,h1,hm,hd,hq=>⟨p,m,q,.ret _,h,vT _,hm,hd,hq⟩
 |f+1,p,m,q,h,hf,h1,hm,hd,hq=>by
  have b:=h.lt (k:=m) N9;have c:=h.lt (k:=m - 1) N9;have step:∀M:Array Nat,(∀k,bK rk M k=bK rk p k)->bK rk p m<=bK rk p (m - 1)->wD rk M (m+1):=λM e A i j u hj=>by
   rw[e,e];by_cases z:j=m
   .subst z;by_cases y:i=j
    .subst y;exact Int.le_refl _
    .have:=hd i (j - 1) N9 N9;lia
   .exact hd i j u N9
  by_cases hc:bK rk p m<bK rk p (m - 1)
  .have d:qw rk (p.getD m 0) (p.getD (m - 1) 0)=true:=mf hc;by_cases g:q > 0
   .have e:=yC (p:=p) (by rw[h.size];lia) hq;refine cX λG K=>?_;obtain⟨M,O,a,g1,l,w,o,s,t⟩:=mF hr f (kas_rev p (m - (q+1)) m) (m+1) 0 (h.rev _ _) N9 N9 N9 (step _ e N9) (qx _ N9);apply K;refine⟨M,O,a,.ask b c ?_,l,N9,o,s,t⟩;rw[d,if_pos rr,if_pos g];exact g1
   .refine cX λG K=>?_;obtain⟨M,O,a,g1,l,w,o,s,t⟩:=mF hr f p (m+1) 0 h N9 N9 N9 (step _ (λ_=>rr) N9) (qx _ N9);apply K;refine⟨M,O,a,.ask b c ?_,l,N9,o,s,t⟩;rw[d,if_pos rr,if_neg g];exact g1
  .have d:qw rk (p.getD m 0) (p.getD (m - 1) 0)=false:=oC hc;by_cases x:bK rk p (m - 1)<bK rk p m
   .have v:qw rk (p.getD (m - 1) 0) (p.getD m 0)=true:=mf x;refine⟨p,m,q,.ask b c ?_,h,vT _,hm,hd,hq⟩;rw[d,if_neg uX];refine .ask c b ?_;rw[v,if_pos rr];exact .ret _
   .have v:qw rk (p.getD (m - 1) 0) (p.getD m 0)=false:=oC x;have he:bK rk p m=bK rk p (m - 1):=N9
    obtain⟨M,O,a,g1,l,w,o,s,t⟩:=mF hr f p (m+1) (q+1) h N9 N9 N9 (step _ (λ_=>rr) N9) ⟨by have:=hq.1;lia,λk k1 k2=>by
     rw[Nat.add_sub_cancel];by_cases z:k=m
     .rw[z]
     .rw[hq.2 k N9 N9,he]⟩
    refine⟨M,O,a,.ask b c ?_,l,N9,o,s,t⟩;rw[d,if_neg uX];refine .ask c b ?_;rw[v,if_neg uX];exact g1
def yD {r:Nat}(hr:r<=n){p:Array Nat}(h:pz n p){m:Nat}(h1:1<=m)(hm:m<=r)(hd:wD rk p m):∃M O,Run n (qw rk) (kas_tail3 m r p) (M,O)/\pz n O/\1<=M/\M<=r/\Up rk O M:=by
 have hu:Up rk (kas_rev p 0 m) m:=λi j a hj=>by
  rw[wC (by rw[h.size];lia),wC (by rw[h.size];lia),if_pos N9,if_pos N9];exact hd _ _ N9 N9
 obtain⟨M,b,q2,c,d,_⟩:=wE (h.rev 0 m) hr _ m rr h1 hm hu;exact⟨M,_,b.bind (.ret _),h.rev 0 m,N9,c,d⟩
def yE {r:Nat}(hr:r<=n){p:Array Nat}(h:pz n p){m:Nat}(hm:m+1<=r)(hd:wD rk p (m+1)):∃M O,Run n (qw rk) (kas_descPart m r p) (M,O)/\pz n O/\1<=M/\M<=r/\Up rk O M:=by
 refine cX λG K=>?_;obtain⟨f,m1,d,g1,a,g,b,c,e⟩:=mF hr _ p _ 0 h rr N9 hm hd (qx _ N9);apply K;clear K;by_cases hq:d > 0
 .obtain⟨M,O,k1,k2,k3,k4,k5⟩:=yD hr (a.rev _ m1) N9 b (C4 (yC (by rw[a.size];lia) e) c);exact⟨M,O,g1.bind (by simp_all),k2,k3,k4,k5⟩
 .obtain⟨M,O,k1,k2,k3,k4,k5⟩:=yD hr a N9 b c;exact⟨M,O,g1.bind (by simp_all),k2,k3,k4,k5⟩
def FF {p:Array Nat}(h:pz n p)(hn:1<=n):∃M a,Run n (qw rk) (kas_count n p) (M,a)/\pz n a/\1<=M/\M<=n/\Up rk a M:=by
 obtain⟨m,b,q2,f,c,l⟩:=wE h (vT n) (n - 1) 1 rr (vT 1) hn (R4 (rk:=rk) p);by_cases e:m=n
 .exact⟨m,p,b.bind (by rw[if_pos (by simp[e])];exact .ret _),h,q2,f,c⟩
 .have q:=l N9;have e1:¬(m == n)=true:=by simp[e]
  by_cases g:m > 1
  .by_cases hc:bK rk p 0<bK rk p (m - 1)
   .refine⟨m,p,b.bind ?_,h,q2,f,c⟩;rw[if_neg e1,if_pos g];refine .ask (h.lt N9) (h.lt N9) ?_;have:qw rk (p.getD 0 0) _=true:=mf hc;rw[this,if_pos rr];exact .ret _
   .have O:∀k,k<m->bK rk p k=bK rk p 0:=λk hk=>by
     have r:=c 0 k N9 hk;have s:=c k (m - 1) N9 N9;simp_all<;>lia
    have er:∀k,bK rk (kas_rev p 0 m) k=bK rk p k:=λk=>by
     rw[wC (by rw[h.size];lia)];split
     .rename_i z;rw[O _ N9,O k z.2]
     .rfl
    have hd:wD rk p (m+1):=λi j d hj=>by
     grind
    obtain⟨M,a,k1,k2,k3,k4,k5⟩:=yE (vT n) (h.rev 0 m) (m:=m) N9 (C4 er hd);refine⟨M,a,b.bind ?_,k2,k3,k4,k5⟩;rw[if_neg e1,if_pos g];refine .ask (h.lt N9) (h.lt N9) ?_;have:qw rk (p.getD 0 0) _=false:=oC hc;rw[this];exact k1
  .have o:m=1:=N9
   subst o;have hd:wD rk p 2:=λi j d hj=>by
    grind
   obtain⟨M,a,k1,k2,k3,k4,k5⟩:=yE (vT n) h (m:=1) N9 hd;refine⟨M,a,b.bind ?_,k2,k3,k4,k5⟩;simp_all
theorem nV {p:Array Nat}(h:pz n p){k:Nat}(hk:k<n)(hu:Up rk p k):∀(f l r:Nat),r - l<=f->l<=r->r<=k->(∀i,i<l->bK rk p i<=bK rk p k)->(∀i,r<=i->i<k->bK rk p k<bK rk p i) ->
  ∃M,Run n (qw rk) (kas_place p k f l r) M/\M<=k/\(∀i,i<M->bK rk p i<=bK rk p k)/\(∀i,M<=i->i<k->bK rk p k<bK rk p i)
 |0,l,r,hf,hl,hr,h1,h2=>⟨l,.ret l,N9,h1,λi a b=>h2 i N9 b⟩
 |f+1,l,r,hf,hl,hr,h1,h2=>by
  by_cases O:l ≥ r
  .refine⟨l,?_,N9,h1,λi a b=>h2 i N9 b⟩;unfold kas_place;rw[if_pos O];exact .ret l
  .by_cases hc:bK rk p k<bK rk p ((l+r) / 2)
   .obtain⟨M,c,q2,d,e⟩:=nV h hk hu f l ((l+r) / 2) N9 N9 N9 h1 λi a b=>by
     have:=hu _ i a b;lia
    refine⟨M,?_,q2,d,e⟩;unfold kas_place;rw[if_neg O];refine .ask (h.lt N9) (h.lt N9) ?_;have:qw rk _ _=true:=mf hc;rw[this];exact c
   .obtain⟨M,c,q2,d,e⟩:=nV h hk hu f ((l+r) / 2+1) r N9 N9 hr (λi a=>by
     have:=hu i ((l+r) / 2) N9 N9;lia) h2
    refine⟨M,?_,q2,d,e⟩;unfold kas_place;rw[if_neg O];refine .ask (h.lt N9) (h.lt N9) ?_;have:qw rk _ _=false:=oC hc;rw[this];exact c
theorem C5:∀(f:Nat)(p:Array Nat)(k:Nat),pz n p->n - k=f->k<=n->Up rk p k->∃M,Run n (qw rk) (kas_bin f p k) M/\pz n M/\Up rk M n
 |0,p,k,h,hf,hk,hu=>⟨p,.ret p,h,(show k=n by lia) ▸ hu⟩
 |f+1,p,k,h,hf,hk,hu=>by
  have O:k<n:=N9
  obtain⟨l,g,q2,m,r⟩:=nV h O hu k 0 k N9 N9 (vT _) (λi z=>by lia) (λi a b=>by lia);have hsz:k<p.size:=by rw[h.size];exact O
  have o:Up rk (bubble p k (k - l)) (k+1):=λi j c hj=>by
   rw[Iz hsz N9,Iz hsz N9];have e:k - (k - l)=l:=N9
   rw[e];by_cases i1:i=l
   .grind
   .rw[if_neg i1];by_cases i2:l<i/\i<=k
    .rw[if_pos i2,if_neg N9,if_pos N9];exact hu _ _ N9 N9
    .rw[if_neg i2];by_cases d:j=l
     .rw[if_pos d];exact m i N9
     .rw[if_neg d];by_cases q:l<j/\j<=k
      .grind
      .rw[if_neg q];exact hu _ _ c N9
  obtain⟨M,k1,k2,k3⟩:=C5 f _ (k+1) (h.bub _ _) N9 N9 o;exact⟨M,g.bind k1,k2,k3⟩
def IA (hn:1<=n):∃p,Run n (qw rk) (kas_sort n) p/\pz n p/\Up rk p n:=by
 have h0:pz n (List.toArray (List.range n)):=⟨X9,X9⟩;obtain⟨m,p,O,q2,c,d,a⟩:=FF h0 hn;by_cases e:m<n
 .have M:max m 1=m:=N9
  obtain⟨b,k1,k2,k3⟩:=C5 _ p (max m 1) q2 rr N9 (by rw[M];exact a);exact⟨b,O.bind (by simp_all),k2,k3⟩
 .have:m=n:=N9
  subst this;exact⟨p,O.bind (by rw[if_neg e];exact .ret _),q2,a⟩
end
def FH {a b c:LI}(h:a<b)(k:b<c):a<c:=lt_trans h k
def FI {a b c:LI}(h:¬b<a)(k:¬c<b):¬c<a:=by grind
def IB {a b:LI}(h:¬b<a)(k:¬a<b):a=b:=by grind
section
variable {α:Type}(f:α->LI)
def Lr (a b:α):Prop:=¬f b<f a
noncomputable def nW (x:α):List α->List α
 |[]=>[x]
 |y::r=>if f y<f x then y::nW x r else x::y::r
noncomputable def dq (l:List α):List α:=l.foldr (nW f) []
theorem nX (x:α):∀l,(nW f x l).Perm (x::l)
 |[]=>List.Perm.refl _
 |y::r=>by
  unfold nW;split
  .exact((nX x r).cons y).trans (List.Perm.swap x y r)
  rfl
theorem aF:∀l,(dq f l).Perm l
 |[]=>List.Perm.refl _
 |x::l=>(nX f x _).trans ((aF l).cons x)
theorem tT (x:α):∀l,l.Pairwise (Lr f)->(nW f x l).Pairwise (Lr f)
 |[],_=>by simp[nW]
 |y::r,h=>by
  obtain⟨h1,h2⟩:=pairwise_cons.mp h;unfold nW;split
  .rename_i hl;refine pairwise_cons.mpr ⟨λz hz=>?_,tT x r h2⟩;rcases vP ((nX f x r).mem_iff.mp hz)with rfl|hz
   .exact λk=>lt_irrefl _ (FH hl k)
   simp_all
  .rename_i hl;refine pairwise_cons.mpr ⟨λz hz=>?_,h⟩;rcases vP hz with rfl|hz
   .exact hl
   .exact FI hl (h1 z hz)
theorem eG:∀l,(dq f l).Pairwise (Lr f)
 |[]=>List.Pairwise.nil
 |x::l=>tT f x _ (eG l)
theorem tU:∀(l1 l2:List α),(∀x∈l1,∀y∈l1,f x=f y->x=y)->l1.Perm l2->l1.Pairwise (Lr f)->l2.Pairwise (Lr f)->l1=l2
 |[],l2,_,p,_,_=>(nil_perm.mp p).symm
 |x::r1,[],_,p,_,_=>absurd p.length_eq X9
 |x::r1,y::c,hi,p,h1,h2=>by
  have hy:=p.mem_iff.mpr (mX ..);have M:Lr f x y:=by
   rcases vP hy with z|z
   .rw[z];exact lt_irrefl _
   simp_all
  have O:Lr f y x:=by
   rcases vP (p.mem_iff.mp (mX ..))with z|z
   .rw[z];exact lt_irrefl _
   simp_all
  have e:=hi x (mX ..) y hy (IB M O);subst e;rw[tU r1 c (λa ha b hb=>hi a (mZ _ ha) b (mZ _ hb)) (List.Perm.cons_inv p) (pairwise_cons.mp h1).2 (pairwise_cons.mp h2).2]
theorem jD (hi:∀x∈l,∀y∈l,f x=f y->x=y)(p:M.Perm l)(h:M.Pairwise (Lr f)):M=dq f l:=
 tU f _ _ (λx hx y hy=>hi x (p.mem_iff.mp hx) y (p.mem_iff.mp hy)) (p.trans (aF f l).symm) h (eG f l)
end
theorem lD {α:Type}{p q:α->Bool}(h:∀x,p x=true->q x=true)(l:List α):(l.filter p).length<=(l.filter q).length:=by
 rw[<-List.countP_eq_length_filter,<-List.countP_eq_length_filter];exact List.countP_mono_left λx _=>h x
noncomputable def qy (cs:List LI)(c:LI):Int:=((cs.filter λx=>decide (x<c)).length:Nat)
def ML {cs:List LI}{a b:LI}(h:¬b<a):qy cs a<=qy cs b:=by
 refine Int.ofNat_le.mpr (lD (λx hx=>?_) cs);grind
def C6 {cs:List LI}{a b:LI}(ha:a∈cs)(h:a<b):qy cs a<qy cs b:=by
 obtain⟨s,t,rfl⟩:=List.append_of_mem ha;have tr:∀x:LI,decide (x<a)=true->decide (x<b)=true:=λx hx=>decide_eq_true (List.lt_trans (of_decide_eq_true hx) h)
 have k1:=lD tr s;have k2:=lD tr t;apply Int.ofNat_lt.mpr;rw[List.filter_append,List.filter_append,List.filter_cons_of_neg (by simp[List.lt_irrefl]),List.filter_cons_of_pos (by simpa using h),List.length_append,List.length_append,List.length_cons];clear ha tr h
 lia
def yF (ha:a∈cs):decide (qy cs a<qy cs b)=decide (a<b):=by
 by_cases h:a<b
 .simp_all[C6]
 simp_all[oC,ML]
set_option genInjectivity true in
inductive At where
 |i (n:Int)
 |s (z:Str)
noncomputable def R5:At->LI
 |.i n=>[n]
 |.s z=>z.cps.toList.map (λ(c:Nat)=>(c:Int)+1)++[0]
def bZ (xs:List At):LI:=xs.flatMap R5
noncomputable def aU:List At->List At->Option Bool
 |[],ys=>some (!ys.isEmpty)
 |_::_,[]=>some false
 |.i a::xs,.i b::ys=>if a=b then aU xs ys else some (decide (a<b))
 |.s a::xs,.s b::ys=>if a=b then aU xs ys else some (decide (a.cps.toList<b.cps.toList))
 |_::_,_::_=>none
theorem wF:∀(a b:LN)(r M:LI),(a.map (λ(c:Nat)=>(c:Int)+1)++0::r)<(b.map (λ(c:Nat)=>(c:Int)+1)++0::M)↔a<b\/(a=b/\r<M)
 |[],[],r,M=>by simp
 |[],y::b,r,M=>by simp[cons_lt_cons_iff]
 |x::a,[],r,M=>by simp[cons_lt_cons_iff];lia
 |x::a,y::b,r,M=>by
  rw[uY,uY,cons_append,cons_append,cons_lt_cons_iff,wF a b r M,cons_lt_cons_iff,Int.add_lt_add_iff_right,Int.ofNat_lt,Int.add_left_inj,Int.ofNat_inj,List.cons.injEq,and_or_left,or_assoc,and_assoc]
def nY (x:At)(xs:List At):bZ (x::xs)=R5 x++bZ xs:=O9
def R6 (x:At):R5 x≠[]:=by cases x<;>simp[R5]
theorem C7 {a b:Str}:a.cps.toList=b.cps.toList↔a=b:=by
 constructor
 .obtain⟨a⟩:=a;simp_all
 lia
theorem p5:∀(xs ys:List At)(b:Bool),aU xs ys=some b->b=decide (bZ xs<bZ ys)
 |[],[],b,h=>by simp_all[aU]
 |[],y::ys,b,h=>by
  simp[aU]at h;subst h;rw[nY];cases e:R5 y with
  |nil=>exact absurd e (R6 y)
  |cons c cs=>simp[bZ]
 |x::xs,[],b,h=>by simp_all[aU,bZ]
 |.i a::xs,.i c::ys,b,h=>by
  rw[aU]at h;show b=decide (a::bZ xs<c::bZ ys);split at h
  .rename_i e;subst e;rw[p5 xs ys b h];simp
  .simp_all[cons_lt_cons_iff]
 |.s a::xs,.s c::ys,b,h=>by
  rw[aU]at h;rw[nY,nY];have M:∀(z:Str)(r:List _),R5 (.s z)++r=z.cps.toList.map (λ(c:Nat)=>(c:Int)+1)++0::r:=λz r=>by simp[R5]
  rw[M,M];split at h
  .rename_i e;rw[p5 xs ys b h];grind[wF]
  grind[wF,C7]
 |.i _::_,.s _::_,b,h=>by simp[aU]at h
 |.s _::_,.i _::_,b,h=>by simp[aU]at h
theorem Bg:∀(xs ys:List At),aU xs ys=some false->aU ys xs=some false->xs=ys
 |[],[],_,_=>rr
 |[],y::ys,h,_=>by simp[aU]at h
 |x::xs,[],_,h=>by simp[aU]at h
 |.i a::xs,.i c::ys,h,k=>by
  rw[aU]at h k;by_cases e:a=c
  .subst e;rw[if_pos rr]at h k;rw[Bg xs ys h k]
  lia
 |.s a::xs,.s c::ys,h,k=>by
  rw[aU]at h k;by_cases e:a=c
  .subst e;rw[if_pos rr]at h k;rw[Bg xs ys h k]
  .rw[if_neg e]at h;rw[if_neg (Ne.symm e)]at k;simp only[Option.some.injEq,decide_eq_false_iff_not]at h k;exact absurd (C7.mp (List.le_antisymm (not_lt.mp k) (not_lt.mp h))) e
 |.i _::_,.s _::_,h,_=>by simp[aU]at h
 |.s _::_,.i _::_,h,_=>by simp[aU]at h
noncomputable def da (ks:List (List At)):Bool:=ks.all λx=>ks.all λy=>(aU x y).isSome
theorem fM (h:da ks=true)(hx:x∈ks)(hy:y∈ks):aU x y=some (decide (bZ x<bZ y)):=by
 have:=uR (uR h x hx) y hy;obtain⟨b,e⟩:=uU this;rw[e,p5 _ _ _ e]
theorem nZ (h:da ks=true)(hx:x∈ks)(hy:y∈ks)(e:bZ x=bZ y):x=y:=by
 refine Bg _ _ ?_ ?_
 .grind[fM]
 grind[fM]
def A4:At->Value->Prop
 |.i n,v=>∃t,v=.int n t
 |.s z,v=>∃t,v=.str z t
def fX (h:Heap)(xs:List At)(v:Value):Prop:=∃a o its n,v=.ref a/\h.get? a=some o/\o.cls=.type "tuple"/\o.data=.seq its n/\Paired A4 xs its.toList
noncomputable def dP (ks:List (List At)):Bool:=ks.all (λx=>match x with|.i _::_=>true|_=>false) || ks.all (λx=>match x with|.s _::_=>true|_=>false)
section
variable {prog:Program}{w:World}{A:Around}{E:QV}{s:Shared}
def IC (xs ys:List At)(its M:LU)(i:Nat)(r1:Paired A4 xs its)(d:Paired A4 ys M)(h:aU xs ys=some b)(hf:dJ=decide (xs.length<ys.length))(q:Q b s):KatLex prog w A true dJ Q (its.zip M) i s:=by
 induction r1 generalizing ys M i with
 |nil=>
  refine kat_nil ?_;cases ys with
  |nil=>simp_all[aU]
  |cons y ys=>simp_all[aU]
 |@cons x v xs its r1 g f=>
  cases d with
  |nil=>
   simp_all[kat_nil,aU]
  |@cons y u ys M d O=>
   cases x with
   |i a=>
    cases y with
    |s _=>simp[aU]at h
    |i c=>
     obtain⟨t,rfl⟩:=r1;obtain⟨u,rfl⟩:=d;refine kat_cons (wpAny_eqBool_int ?_);rw[aU]at h;by_cases e:a=c
     .rw[if_pos e]at h;rw[show(a == c)=true by simp[e]];exact kat_yes (f ys M (i+1) O h (by rw[hf];simp))
     .rw[if_neg e]at h;cases h
      rw[show(a == c)=false by simp[e]];refine kat_no ?_;cases hb:(true && i == 0) with
      |true=>exact oneLt_int q
      |false=>exact kat_one _ _ (PyProof.Rows.lt_int q)
   |s a=>
    cases y with
    |i _=>simp[aU]at h
    |s c=>
     obtain⟨t,rfl⟩:=r1;obtain⟨u,rfl⟩:=d;refine kat_cons (wpAny_eqBool_str ?_);rw[aU]at h;by_cases e:a=c
     .rw[if_pos e]at h;rw[mf e];exact kat_yes (f ys M (i+1) O h (by rw[hf];simp))
     .rw[if_neg e]at h;cases h
      rw[oC e];refine kat_no ?_;cases hb:(true && i == 0) with
      |true=>exact oneLt_str q
      |false=>exact kat_one _ _ (PySem.P.lt_str q)
theorem eI {α a:Type}{F:α->a->Prop}:∀ {M:List α}{O:List a},Paired F M O->M.length=O.length
 |_,_,.nil=>rr
 |_,_,.cons _ t=>by simp[eI t]
def R7 {Q:Bool->Shared->Prop}{xs ys:List At}{x y:Value}{b:Bool}(hx:fX s.heap xs x)(hy:fX s.heap ys y)(h:aU xs ys=some b)(q:Q b s):wpAny (model prog w) A (keyLt' (tuples' true) x y) Q E s:=by
 obtain⟨a,o,its,n,rfl,ho,_,hd,r⟩:=hx;obtain⟨d,o',its',e,rfl,M,_,O,c⟩:=hy;refine kat_lt ho hd M O (IC xs ys _ _ 0 r c h ?_ q);rw[<-vG,<-vG,eI r,eI c]
theorem oJ:∀ {ks:List (List At)}{vs:LU},Paired (fX h) ks vs->(∀k∈ks,k≠[])->∃fs,KatTups h vs fs/\fs.length=ks.length/\∀v∈fs,∃k r,(k::r)∈ks/\A4 k v
 |_,_,.nil,_=>⟨[],trivial,rr,X9⟩
 |k::ks,_,.cons x t,M=>by
  obtain⟨fs,h1,h2,h3⟩:=oJ t λz hz=>M z (mZ _ hz);obtain⟨a,o,its,n,rfl,ho,hc,hd,r⟩:=x;cases O:its.toList with
  |nil=>
   rw[O]at r;cases r
   simp_all
  |cons v vs=>
   rw[O]at r;obtain⟨p,r1⟩:∃p,its[0]? = some v:=⟨(),by rw[<-Array.getElem?_toList,O];rfl⟩;cases r with
   |cons q b=>
    refine⟨v::fs,KatTups.cons ho hc hd r1 h1,by simp[h2],λu hu=>?_⟩;grind
def ID (hp:Paired (fX s.heap) ks vs)(hf:dP ks=true)(hn:0<ks.length)(q:Q (tuples' true) s):wpAny (model prog w) A (keyKind' vs.toArray) Q E s:=by
 have M:∀k∈ks,k≠[]:=λk hk z=>by
  subst z;unfold dP at hf;rw[Bool.or_eq_true]at hf;rcases hf with hf|hf
  .have:=uR hf [] hk;simp at this
  .have:=uR hf [] hk;simp at this
 obtain⟨fs,h1,h2,h3⟩:=oJ hp M;unfold dP at hf;rw[Bool.or_eq_true]at hf;rcases hf with hf|hf
 .refine kat_kind (T:=.type "int") h1 N9 (λv hv=>?_) H9 q;obtain⟨k,r,m,z⟩:=h3 v hv;have:=uR hf _ m;cases k with
  |i n=>obtain⟨t,rfl⟩:=z;exact .now
  |s O=>simp at this
 .refine kat_kind (T:=.type "str") h1 N9 (λv hv=>?_) H9 q;obtain⟨k,r,m,z⟩:=h3 v hv;have:=uR hf _ m;cases k with
  |s O=>obtain⟨t,rfl⟩:=z;exact .now
  |i n=>simp at this
end
section
variable {prog:Program}{w:World}{A:Around}{E:QV}{s:Shared}
theorem dz {α a:Type}{F:α->a->Prop}(d:α)(e:a):∀ {M:List α}{O:List a},Paired F M O->∀ {i:Nat},i<M.length->F (M.getD i d) (O.getD i e)
 |_,_,.cons r t,0,_=>r
 |_,_,.cons r t,i+1,h=>by
  exact dz d e t (by simpa using h)
 |_,_,.nil,i,h=>by simp at h
def Ls (ks:List (List At))(i:Nat):Int:=qy (ks.map bZ) (bZ (ks.getD i []))
def MN {ks:List (List At)}{vs:LU}(hc:da ks=true)(hp:Paired (fX s.heap) ks vs):∀(i j:Nat)(C:Bool->Shared->Prop)(s1:Shared),i<ks.length->j<ks.length->s1=s->(∀s',s'=s->C (qw (Ls ks) i j) s')->kas_ask prog w A (tuples' true) vs i j C s1:=by
 intro i j C s1 hi hj e O;subst e;have M:ks.getD i []∈ks:=by simp_all
 have a:ks.getD j []∈ks:=by simp_all
 refine R7 (dz [] _ hp hi) (dz [] _ hp hj) (fM hc M a) ?_;have:=O s1 rr;unfold qw Ls at this;rw[yF (uS ⟨_,M,rr⟩)]at this;exact this
end
end DL
namespace DL
open PySem PySem.Spec PySem.W PyProof.Rows L2
noncomputable def OT:D->Option At
 |.int n=>some (.i n)
 |.str z=>some (.s z)
 |_=>none
def iY:LD->Option (List At)
 |[]=>some []
 |d::ds=>(OT d).bind λa=>(iY ds).map (a :: ·)
def Bh:D->Option (List At)
 |.tup es=>iY es
 |_=>none
def dQ:LD->Option (List (List At))
 |[]=>some []
 |d::ds=>(Bh d).bind λa=>(dQ ds).map (a :: ·)
noncomputable def oK:LD->Option LI
 |[]=>some []
 |.int n::ds=>(oK ds).map (n :: ·)
 |_::_=>none
def tV (ns:LI):LI:=dq (λn=>[n]) ns
theorem oe:∀ {ds:LD}{ks:List (List At)},dQ ds=some ks->ks.length=ds.length
 |[],_,h=>by simp_all[dQ]
 |d::ds,_,h=>by
  refine eX h λa h1 h=>?_;refine eZ h λr h2 h=>?_;subst h;simp[oe h2]
theorem tW:∀ {ds:LD}{ks:List (List At)},dQ ds=some ks->∀ {i:Nat},i<ds.length->Bh (ds.getD i .non)=some (ks.getD i [])
 |[],_,h,i,hi=>by simp at hi
 |d::ds,_,h,0,hi=>by
  refine eX h λa h1 h=>?_;refine eZ h λr h2 h=>?_;subst h;exact h1
 |d::ds,_,h,i+1,hi=>by
  refine eX h λa h1 h=>?_;refine eZ h λr h2 h=>?_;subst h;exact tW h2 (by simpa using hi)
section
variable {X:Cx}
theorem yG {K:Frag}{B:Hp}:∀ {vs:LV}{es:LD}{k:List At}{its:LU},aL vs its->IsL K B vs es->iY es=some k->Paired A4 k its
 |_,_,_,_,.nil,.nil,h=>by cases h;exact .nil
 |_,_,_,_,.cons r M,.cons i O,h=>by
  refine eX h λa h1 h=>?_;refine eZ h λt h2 h=>?_;subst h;refine .cons ?_ (yG M O h2);cases i<;>simp [OT]at h1<;>cases h1
  .exact r
  .exact r
theorem p6 {af:AO}{σ:St}{H:Hp}{s:Shared}(I:Inv X af σ H s):∀ {ys:LV}{ds:LD}{ks:List (List At)}{its:LU},aL ys its->IsL X.K H ys ds->dQ ds=some ks->Paired (fX s.heap) ks its
 |_,_,_,_,.nil,.nil,h=>by cases h;exact .nil
 |_,_,_,_,.cons r M,.cons i O,h=>by
  refine eX h λa h1 h=>?_;refine eZ h λt h2 h=>?_;subst h;refine .cons ?_ (p6 I M O h2);cases i<;>simp [Bh]at h1<;>try (cases h1)
  rename_i hq hl;cases r
  refine cX λG g=>?_;obtain⟨its',b,⟨o,ho,hc,n,hd⟩,_⟩:=I.tuple hq;apply g;exact⟨_,o,_,n,rr,ho,hc,hd,by simpa using yG b hl h1⟩
theorem C8 {K:Frag}{B:Hp}:∀ {vs:LV}{ds:LD},IsL K B vs ds->∀ {i:Nat},i<ds.length->Is K B (vs.getD i .non) (ds.getD i .non)
 |_,_,.cons h _,0,_=>h
 |_,_,.cons _ t,i+1,hi=>by
  exact C8 t (by simpa using hi)
 |_,_,.nil,i,hi=>by simp at hi
theorem yH:∀ {vs:LV}{us:LU},aL vs us->∀ {i:Nat},i<vs.length->aD (vs.getD i .non) (us.getD i Value.none)
 |_,_,.cons h _,0,_=>h
 |_,_,.cons _ t,i+1,hi=>by
  exact yH t (by simpa using hi)
 |_,_,.nil,i,hi=>by simp at hi
theorem yI {K:Frag}{B:Hp}{vs:LV}{ds:LD}(h:IsL K B vs ds):∀(l:LN),(∀i∈l,i<ds.length)->IsL K B (l.map λi=>vs.getD i .non) (l.map λi=>ds.getD i .non)
 |[],_=>.nil
 |i::l,hl=>.cons (C8 h (hl i (mX ..))) (yI h l λj hj=>hl j (mZ _ hj))
theorem tX (h:aL vs us):∀(l:LN),(∀i∈l,i<vs.length)->aL (l.map λi=>vs.getD i .non) (l.map λi=>us.getD i Value.none)
 |[],_=>.nil
 |i::l,hl=>.cons (yH h (hl i (mX ..))) (tX h l λj hj=>hl j (mZ _ hj))
end
section
variable {X:Cx}
theorem C9 {K:Frag}{B:Hp}:∀ {vs:LV}{ds:LD}{ns:LI}{its:LU},aL vs its->IsL K B vs ds->oK ds=some ns->IntsAre its ns
 |_,_,_,_,.nil,.nil,h=>by simp only[oK]at h;cases h;exact .nil
 |_,_,_,_,.cons r M,.cons i O,h=>by
  cases i<;>simp only[oK]at h<;>try (cases h;done)
  refine eZ h λt h2 h=>?_;subst h;obtain⟨u,rfl⟩:=r;exact .cons _ u (C9 M O h2)
theorem iC:∀ {its:LU}{zs:LI},IntsAre its zs->aL (zs.map V.int) its
 |_,_,.nil=>.nil
 |_,_,.cons x t r=>.cons ⟨t,rr⟩ (iC r)
theorem qz {K:Frag}{N:Hp}:∀(zs:LI),IsL K N (zs.map V.int) (zs.map D.int)
 |[]=>.nil
 |z::zs=>.cons (.int z) (qz zs)
def IE (p:M.Perm l)(h:M.Pairwise (·<=·)):M=tV l:=by
 refine jD _ (λx _ y _ e=>by injection e) p (h.imp λ{a b} O=>?_);unfold Lr;intro z;rw[cons_lt_cons_iff]at z;rcases z with z|⟨_,z⟩
 .omega
 .exact lt_irrefl _ z
end
end DL
namespace DL
open PySem PySem.Spec PyProof.Rows L2
section
variable {X:Cx}{e:Expr}{pos pos2 p p2:Pos}
def sP:bu X (.builtin "len") (λxs H Q=>∃S M,xs=[.ref S]/\H S=some (qu (PySem.strKind X.prog X.w) strOf S M)/\Q (.int (M.length:Nat)) H):=by
 intro af s σ H xs us Q I r h;obtain⟨S,M,rfl,hS,q⟩:=h;obtain⟨u,rfl,a⟩:=eB r;cases a
 have b:ib (PySem.strKind X.prog X.w) strOf s.heap S M:=(I.hok S _ hS).1;refine cX λG g=>?_;obtain⟨o,es,d,t,ho,O,hd,f,hp,nd,hb,hf,_⟩:=b;apply g;have sz:es.size=M.length:=by rw[<-hp.length_eq,vI,vG]
 have c:M.length<4096:=hb;exact PySem.call_len_set ho O hd hf (by rw[sz];omega) ⟨.int (M.length:Nat),H,I.tok _,⟨_,by rw[sz]⟩,q⟩
def FJ (hc:X.calm=true)(m1:X.mg "len" = none)(m2:X.mg "set" = none)(he:JE X e f)(g1:Gl X "len")(c:Gl X "set")
  (h1:starEach [e] X.env=(false,eval e X.env)::starEach [] X.env):JE X (.Call (.Name "len" p) [.Call (.Name "set" p2) [e] [] pos2] [] pos) (f1 wB f):=by
 refine PE.to (mm sP g1 m1 HR (cC (km (jC koS hc) c m2 Ix (cC he dL h1) (he:=h1)) dL)) λσ H Q q=>?_;refine cX λG K=>?_;obtain⟨B,ρ,d',bb,d,r,M,q⟩:=q;refine eX M λa ex M=>?_;apply K;refine⟨B,ρ,a.1,a.2,d,r,ex,λv k N1 O i1 l=>?_⟩;obtain⟨xd,m⟩:=a;cases i1<;>try (simp[wB]at M;done)
 rename_i n vs ds h hl;simp only[wB]at M;refine eX M λss g M=>?_;split at M
 .rename_i i;cases M
  refine⟨_,_,ss,rr,O.nh.seq h,λits j=>StrsAre.keys (iF j hl g),i,λS hS=>⟨S,_,rr,au,?_⟩⟩;have b:=Ext.laid (o:=qu (PySem.strKind X.prog X.w) strOf S (dG ss)) O.nh hS;exact(q.into (O.trans b)).one (O.trans b).nh (.int _)
 .cases M
end
section
variable {X:Cx}{a:Expr}{pos:Pos}{x:Str}{p:Pos}{d:Addr}{a9:List (Str×D)}
def FK (cd:m9 X.K X.w.params d a9):c8 X (compareOp .NotIn) (λx y H Q=>∃z,x=.str z/\y=.ref d/\Q (.bl (!(a9.lookup z).isSome)) H):=by
 rintro af s σ H _ _ v u Q I O b ⟨z,rfl,rfl,q⟩;cases b
 obtain⟨t,rfl⟩:=O;obtain⟨f,c,e,hf⟩:=cd.map I;refine wpAny_notIn_of (strKind_is _ _ z t) e c ⟨.bl _,H,I.tok _,?_,q⟩;have:=hf z;cases M:a9.lookup z with
 |none=>rw[M]at this;rw[this];rfl
 |some dd=>rw[M]at this;obtain⟨_,_,e1,_⟩:=this;rw[e1];rfl
def FL (h:∃d,X.mg x=some (.ref d)/\m9 X.K X.w.params d a9)(ha:JE X a f)(e:Gl X x)(hd:(x == ("__debug__" : Str))=false)(hm:behindInMarks .NotIn (.Name x p)=false):JT X (.Compare a [.NotIn] [.Name x p] pos) (bJ (f1 (AW a9) f)):=by
 obtain⟨d,O,cd⟩:=h;refine PT.to (Cb (FK cd) ha (p0 (v:=.ref d) e O rr hd) hm) λσ H Q q=>?_;refine cX λG W=>?_;obtain⟨B,ρ,d',bb,g,r,M,q⟩:=qc q;refine eX M λb ex M=>?_;apply W;refine⟨B,ρ,b.1,b.2,g,r,ex,λv i N1 c i1 j=>?_⟩;obtain⟨xd,k⟩:=b;cases i1<;>try (simp at M;done)
 rename_i z;cases M
 exact⟨z,rr,rr,(q.into c).one c.nh (.bl _)⟩
end
section
variable {prog:Program}{w:World}{A:Around}{E:QV}{s:Shared}
def Bi {a:Addr}{o:Obj}{its:AV}{n:Nat}{x:Value}{e:Value->Bool}{j:Nat}{P:PySem.Fin->Shared->Prop}(ho:s.heap.get? a=some o)(hd:o.data=.seq its n)
  (he:∀y∈its,MeetsSeq.EqGives y x (e y)) (hj:j<its.size) (GI:e its[j]=true) (M:∀m (hm:m<its.size),m<j->e its[m]=false)
  (h:P (.done (.ret (.int j s.toks))) { s with toks:=s.toks+1 }):wpAny (model prog w) A (Builtin.«tuple.index» ⟨[.ref a,x],[]⟩) P E s:=by
 show wpAny _ _ (Builtin.Tuple.tupleItemsOf _>>=_) _ _ s;refine wX (wpAny_tupleItemsOf ho hd ?_);refine wX (wY (wX (wY (wX ?_))));rw[Std.Legacy.Range.forIn_eq_forIn_range'];refine wpAny_forIn_list _
  (λaj r s'=>r.1=none/\s'=s/\∃i,i<=j/\aj=List.range' i (its.size - i))
  _ ?_ ?_ _ _ ⟨rr,rr,0,uN _,?_⟩
 .rintro k aj r s' ⟨hr,rfl,i,hi,hz⟩;have d:i<its.size:=N9
  obtain⟨m,hm⟩:∃m,its.size - i=m+1:=⟨its.size - i - 1,N9⟩;rw[hm]at hz;injection hz with O f;have O:=O.symm;subst O;have c:its[i]? = some its[i]:=X9
  simp only[c];refine wX (he _ (Array.getElem_mem _) _ w _ _ _ _ ?_);by_cases b:i=j
  .subst b;rw[GI];refine wX ?_;exact wX (wpAny_mkInt (wY (wY (wY h))))
  .rw[M i _ N9];exact wY ⟨rr,rr,i+1,N9,by grind⟩
 .grind
 .simp
end
theorem CRows.findT {K:Frag}{P:Params}(y:Str){ds:LD}:∀ {es:List DictEntry}{a9:List (Str×D)},CRows K P es a9->a9.lookup y=some (.tup ds) ->
  ∃e a its n nJ,es.find? (λe=>Value.isStrOf y e.key)=some e/\e.val=.ref a/\K.lookup a=some ⟨.type "tuple",none,.seq its n,nJ⟩/\iV its.toList ds=true
 |_,_,.nil,h=>by simp at h
 |_,_,.tup (x:=x) (t:=t) (a:=a) (ds:=O) hh l f tl,h=>by
  by_cases e:y=x
  .subst e;rw[List.lookup_cons_self]at h;cases h
   rw[vC]at f;exact⟨_,a,_,_,_,List.find?_cons_of_pos (by simp[Value.isStrOf]),rr,l,f.2⟩
  .rw[lookup_cons,beq_eq_false_iff_ne.mpr e]at h;have M:Value.isStrOf y (Value.str x t)=false:=by
    rw[Bool.eq_false_iff];intro z;obtain⟨t',q⟩:=Value.isStrOf_shape z;simp_all
   simp only[find?_cons,M];exact tl.findT y h
 |_,_,.flat (x:=x) (t:=t) (u:=u) (d:=d) hh f tl,h=>by
  by_cases e:y=x
  .subst e;rw[lookup_cons,beq_self_eq_true]at h;cases h;cases u<;>cases f
  .rw[lookup_cons,beq_eq_false_iff_ne.mpr e]at h;have M:Value.isStrOf y (Value.str x t)=false:=by
    rw[Bool.eq_false_iff];intro z;obtain⟨t',q⟩:=Value.isStrOf_shape z;simp_all
   simp only[find?_cons,M];exact tl.findT y h
section
variable {X:Cx}{b e:Expr}{pos:Pos}{x:Str}{p:Pos}
def Zy (K:Frag):V->LV->Hp->VK->Prop:=λx xs H Q=>∃(a:Addr)(o:Obj)(its:AV)(n:Nat)(zs:LS)(y:Str),x=.ref a/\xs=[.str y]/\K.lookup a=some o/\o.cls=.type "tuple"/\o.data=.seq its n/\StrsAre its.toList zs/\zs.findIdx (· == y)<zs.length/\Q (.int (zs.findIdx (· == y):Nat)) H
noncomputable def OU (y:Str):Value->Bool
 |.str z _=>z == y
 |_=>false
theorem CA:∀ {its:LU}{zs:LS},StrsAre its zs->∀(i:Nat)(hi:i<its.length),∃(h:i<zs.length)(t:Tok),its[i]=.str zs[i] t
 |_,_,.cons z t h,0,_=>⟨X9,t,rr⟩
 |_,_,.cons z t h,i+1,hi=>by
  obtain⟨h',t',e⟩:=CA h i (by simpa using hi);simp_all
 |_,_,.nil,i,hi=>by simp at hi
theorem yJ:∀ {its:LU}{zs:LS},StrsAre its zs->its.length=zs.length
 |_,_,.nil=>rr
 |_,_,.cons _ _ h=>by rw[vE,vE,yJ h]
def IF:U2 X "tuple.index" (Zy X.K):=by
 intro af s σ H x xs v us Q I c rv h;obtain⟨a,o,its,n,zs,y,rfl,rfl,lk,hc,hd,hz,hk,q⟩:=h;cases c
 obtain⟨u,rfl,⟨t,rfl⟩⟩:=rv.one;have ho:=I.kIn a o lk;have hl:=yJ hz;rw[vG]at hl;have at':∀(i:Nat)(hi:i<its.size),∃(h:i<zs.length)(t:Tok),its[i]=.str zs[i] t:=λi hi=>by
  obtain⟨h',t',e⟩:=CA hz i (by simpa using hi);exact⟨h',t',by simpa using e⟩
 refine wpAny_call_entry PySem.F.slot_tuple_index ⟨o,ho,hc⟩ PySem.F.entry_tuple_index (Bi (e:=OU y) ho hd (λz hm=>?_) N9 ?_ (λm hm O=>?_) ⟨_,rr,.int _,H,I.tok _,⟨_,rr⟩,q⟩) (PySem.F.args_tuple_index_2 _ _)
 .obtain⟨i,hi,rfl⟩:=Array.mem_iff_getElem.mp hm;obtain⟨_,t',M⟩:=at' i hi;rw[M];exact eqGives_str _ _ _ _
 .obtain⟨_,t',M⟩:=at' (zs.findIdx (· == y)) N9;rw[M];exact List.findIdx_getElem (w:=hk)
 .obtain⟨_,t',M⟩:=at' m hm;rw[M];have:=List.not_of_lt_findIdx O;simpa [OU]using this
@[simp] def lG (a9:List (Str×D)):D->D->OB
 |.str y,.str z=>match a9.lookup y with
  |some (.tup ds)=>(eC ds).bind λzs=>if zs.findIdx (· == z)<zs.length then some (.int (zs.findIdx (· == z):Nat),false)else none
  |_=>none
 |_,_=>none
def MO {a9:List (Str×D)}{f g:FE}{cb bA:Pos}(h:∃d,X.mg x=some (.ref d)/\m9 X.K X.w.params d a9)(hb:JE X b f)(he:JE X e g)(E:Gl X x)(c:(x == ("__debug__" : Str))=false)(hs:mo b)
  (O:attributeBase (.Subscript (.Name x p) b pos) "index" X.env (eval (.Subscript (.Name x p) b pos) X.env)=eval (.Subscript (.Name x p) b pos) X.env)
  (G:((backTo bA (starEach [e] X.env)).all (λx=>!x.1) && (backToKw bA (keywordEach [] X.env)).all (λx=>x.1.isSome)
   && decide ([e].length+([]:List Keyword).length+(if([]:List Keyword).isEmpty then 0 else 1)<30))=true)
  (J:(cb.endLine == bA.line)=true) (o:starEach [e] X.env=[(false,eval e X.env)]):
  JE X (.Call (.Attribute (.Subscript (.Name x p) b pos) "index" cb) [e] [] bA) (f2 (lG a9) f g):=by
 obtain⟨d,hm,cd⟩:=h;have L:Qu X (λx y H Q=>∃z ds,x=.ref d/\y=.str z/\a9.lookup z=some (.tup ds)/\∀a its n nJ,X.K.lookup a=some ⟨.type "tuple",none,.seq its n,nJ⟩->iV its.toList ds=true->Q (.ref a) H):=by
  intro i j af s σ H x y v u Q I N P q hs;obtain⟨z,ds,rfl,rfl,k,q⟩:=q;cases N
  obtain⟨t,rfl⟩:=P;obtain⟨es,n,l,r,sm⟩:=cd;have A:=PySem.W.mapOf_K (prog:=X.prog) I.kIn l r.lit;obtain⟨en,a,its,n',nJ,e1,e2,R,S⟩:=r.findT z k;have T:findBy Value.isStrOf es z=some (.ref a):=by
   simp_all[findBy]
  exact tail_any A.typeIs slot_dict_getitem.lookup (wpAny_getItem_of (strKind_is X.prog X.w z t) A T ⟨.ref a,H,I.tok _,rr,q a _ _ _ R S⟩) hs
 refine PE.to (xP PySem.F.plainAttrs_tuple PySem.F.slot_tuple_index PySem.F.type_tuple_index IF (Hn L (p0 (v:=.ref d) E hm rr c) hb hs) (cC he dL o) O G J o rr) λσ H Q q=>?_;obtain⟨B,ρ,d',bb,U,r,M,q⟩:=q;refine eX M λV ex M=>?_;refine eX M λY Z M=>?_;obtain⟨xd,xb⟩:=V;obtain⟨yd,yb⟩:=Y;cases xd with
 |str z=>
  cases yd with
  |str y=>
   refine⟨B,ρ,_,xb,U,r,ex,λv H1 N1 m i1 _=>?_⟩;cases i1
   simp only[lG]at M;split at M
   .rename_i ds k;refine eX M λzs ez M=>?_;split at M
    .rename_i hk;cases M
     refine⟨z,ds,rr,rr,k,λa its n nJ l fl=>⟨.inr (.inl ⟨rr,_,l,rr,rr⟩),N1,ρ,_,yb,m.nh,r.mono m.bn,Z,λv2 H2 N2 C i2 _=>?_⟩⟩;cases i2
     obtain⟨vs,rv,iv⟩:=iW (K:=X.K) fl;exact⟨a,_,its,n,zs,y,rr,rr,l,rr,rr,iF rv (iv N2) ez,hk,(q.into (m.trans C)).one C.nh (.int _)⟩
    simp_all
   simp_all
  |_=>simp[lG]at M
 |_=>simp[lG]at M
end
open PySem.W (tabIn tabObj CodeHd kla_fn kla_obj kla_eval kla_makeFunction kla_makeFunctionHit kla_callFunE kla_codeExpr envX)
def Vu (K:Frag)(c P:Addr):Prop:=∃o vs O a M tg b d e,K.lookup c=some o/\o.cls=.type "code"/\o.data=.fields vs/\vs[11]? = some (.ref P)/\vs.getD 11 .none=.ref P/\vs.getD 18 .none=.str O a /\
 vs.getD 7 .none=.int M tg/\vs.getD 9 .none=.bool b/\vs.getD 10 .none=.int d e/\c≠P
def yK (K:Frag)(x:Str):Prop:=∃c P,tabIn K x=some (c,P)/\Vu K c P
def IG (H:Hp)(f:Addr)(q:Str)(params:Arguments)(M:Expr)(scope:Scope)(cl:List (Str×Addr)):Prop:=
 ∃pm c O u oc u' vs t,H f=some (.frz (kla_obj "<lambda>" q params M scope cl pm c O) u)/\H c=some (.frz oc u')/\oc.data=.fields vs/\vs[1]? = some (.str q t)
def IG.mono (h:IG H f q params O scope cl)(e:aH H H'):IG H' f q params O scope cl:=
 let ⟨pm,c,M,u,oc,u',vs,t,h1,h2,h3,h4⟩:=h;⟨pm,c,M,u,oc,u',vs,t,e _ _ h1,e _ _ h2,h3,h4⟩
def lam_mk {K:Frag}{x:Str}{f c P:Addr}{oc:Value}{od b:Option Addr}{nJ d:Array (Option Value)}{fd:FuncData}{vs:AV}{O:Str}{g tg h:Tok}{M i:Int}{j:Bool}(e1:nsIn K mainGlobals x=some (some (.ref f)))(e2:K.lookup f=some ⟨oc,od,.func fd,nJ⟩)
  (m:fd.code=.ref c) (k:K.lookup c=some ⟨.type "code",b,.fields vs,d⟩) (l:vs[11]? = some (.ref P)) (n:vs.getD 11 .none=.ref P) (o:vs.getD 18 .none=.str O g) (p:vs.getD 7 .none=.int M tg) (q:vs.getD 9 .none=.bool j) (e:vs.getD 10 .none=.int i h) (a:(c == P)=false):yK K x:=
 ⟨c,P,tab_yes e1 e2 m k l,_,vs,O,g,M,tg,j,i,h,k,rr,rr,l,n,o,p,q,e,λz=>by rw[z]at a;simp at a⟩
def Bj (l:LU)(h:TriplesOk l)(e:codeAmong pos (l++[rawInt a,rawInt b,c])=some cv):codeAmong pos l=some cv\/cv=c:=by
 fun_induction TriplesOk l with
 |case1=>
  simp_all[rawInt,codeAmong]
 |case2 M t b' u x aj O=>
  simp only[cons_append,codeAmong]at e |-;split<;>simp_all
 |case3 l h1 h2=>exact h.elim
section
variable {X:Cx}{af:AO}{σ:St}{H:Hp}{s:Shared}
def IH
  (hx:x∈j6) (L:yK X.K x) (hc:∀c P,tabIn X.K x=some (c,P)->X.env.code=.ref c) (hq:X.env.qual ++ "<lambda>" = sD x) (y:defaultsOf params X.env=([],[])) (V:closureFor scope X.env=pure cl)
  (I:Inv X af σ H s) (tb:Tb X.K H) (k:∀f H' s',Inv X af σ H' s'->aH H H'->IG H' f (sD x) params body scope cl->Q (.ref f) s'):
  wq X (eval (.Lambda params body scope pos) X.env) Q E s:=by
 refine kla_eval y ?_;rw[hq];obtain⟨c,P,W,o,vs,A,tf,XZ,tg,T9,GJ,tt,lk,ck⟩:=L;have O:=hc c P W;have B:=tb x hx c P W;obtain⟨ps,e,D,co⟩:=I.hok P _ B;have C:CodeHd s.heap c P:=⟨o,vs,A,tf,XZ,tg,T9,GJ,tt,I.kIn c o lk,ck⟩;have Y:s.heap.Ns mainGlobals X.mg:=I.mod.glob.keeps I.bk;have m:∀b,H b=none->b≠P:=λb n z=>by rw[z,B]at n;cases n
 have F:mainGlobals≠P:=by
  obtain⟨og,_,_,Z,_⟩:=I.mod.glob;exact m _ (I.bs _ _ Z).2
 have hb:s.heap.BuiltinsAt X.mg P:=by
  obtain⟨bm,ob,b1,b2,b3,b4,b5,b6⟩:=I.mod.bmain;refine⟨bm,ob,b1,b2,λz=>?_,m _ (I.bs _ _ b3).2,I.bk _ _ b3,b4,b5,b6⟩;obtain⟨og,es,ep,Z,dg,_⟩:=I.mod.glob;simp_all
 cases hf:codeAmong pos ps.toList with
 |some cv=>
  obtain⟨M,oc,u,ws,t,rfl,hH,hd,hv⟩:=co pos cv hf;refine kla_makeFunctionHit (mg:=X.mg) V I.ok.glob Y O C e D hf hb λi h' tk hk hsz=>?_;have hn:H h'.objs.size=none:=I.hok.fresh hsz;have a:aH H (upd H h'.objs.size (.frz (kla_obj "<lambda>" (sD x) params body scope cl ((X.mg "__name__").getD .none) M i) (.own h'.objs.size))):=λb u q=>by rw[a6 (aN q hn)];exact q
  refine k _ _ _ (I.laid (t':=tk) (λb u q=>vZ _ (hk b u q)) hsz (show bj X.prog X.w _ _ _ (.frz _ (.own h'.objs.size))from ⟨vY _ rr,_,vY _ rr⟩)) a ?_;exact⟨_,M,i,_,oc,u,ws,t,au,a _ _ hH,hd,hv⟩
 |none=>
  refine kla_makeFunction (mg:=X.mg) V I.ok.glob Y O C e D hf F hb λM i h' tk hx' g ju j G=>?_;obtain⟨c2,oc,ws,t,e2,P2,hd,hv⟩:=j;cases e2
  have J:H M=none:=I.hok.fresh g;have hsz:s.z<=h'.objs.size:=vR g (le_of_lt ju);have N:H h'.objs.size=none:=I.hok.fresh hsz;have R:M≠h'.objs.size:=vS ju;let fo:Obj:=kla_obj "<lambda>" (sD x) params body scope cl ((X.mg "__name__").getD .none) M i;let p:Hp:=upd (upd H M (.frz oc (.own M))) h'.objs.size (.frz fo (.own h'.objs.size));have a:aH H p:=λb u q=>by
   show upd _ _ _ b=_;rw[a6 (aN q N),a6 (aN q J)];exact q
  have h:p M=some (.frz oc (.own M)):=by show upd _ _ _ M=_;rw[a6 R,au]
  have keep:∀b u,b≠P->s.heap.get? b=some u->(h'.push fo).get? b=some u:=λb u n q=>vZ _ (hx' b u n q);have lt:∀b u,s.heap.get? b=some u->b≠M/\b≠h'.objs.size:=λb u q=>⟨vS (vQ (vX q) g),vS (vQ (vX q) hsz)⟩;have Ya:(h'.push fo).get? P=some (tabObj (ps++#[rawInt pos.line,rawInt pos.col,.ref M])):=vZ _ G;refine k _ p _ (I.un (t':=tk) (h':=h'.push fo) ⟨λb u q n _ _=>keep b u (m b n) q,λb u q n _ _=>⟨u.slots,keep b u (m b n) q⟩,λb u q n _=>?_,λb u q _=>?_,λb xs q=>a _ _ q,λb ob u q=>a _ _ q,λb u q=>a _ _ q⟩ λb u q=>?_) a ⟨_,M,i,_,oc,_,ws,t,au,h,hd,hv⟩
  .show upd _ _ _ b=_;rw[a6 (lt b u q).2,a6 (lt b u q).1];exact n
  .by_cases z:b=P
   .subst z;exact⟨_,Ya⟩
   .exact⟨u,keep b u z q⟩
  .by_cases z1:b=h'.objs.size
   .subst z1;have l:some (HO.frz fo (.own h'.objs.size))=some u:=by rw[<-q];exact au.symm
    cases l
    exact⟨vY _ rr,_,vY _ rr⟩
   .by_cases z2:b=M
    .subst z2;rw[h]at q;cases q;exact⟨vZ _ P2,_,vZ _ P2⟩
    .have l:H b=some u:=by
      have:p b=H b:=by show upd _ _ _ b=_;rw[a6 z1,a6 z2]
      rw[<-this];exact q
     by_cases z3:b=P
     .subst z3;rw[B]at l;cases l;refine⟨_,Ya,?_,λKZ S ea=>?_⟩
      .simp_all[TriplesOk_snoc]
      .rw[Array.toList_append]at ea;rcases Bj _ D ea with ea|rfl
       .obtain⟨c3,T,u3,U,t3,y1,y2,y3⟩:=co KZ S ea;exact⟨c3,T,u3,U,t3,y1,a _ _ y2,y3⟩
       .exact⟨M,oc,_,ws,t,rr,h,hd,hv⟩
     .refine(I.hok b u l).stay (λd v P6 r=>keep d v ?_ r) (λd r=>a _ _ r) (λd xs r=>a _ _ r) λd ob v r=>a _ _ r;simp_all<;>lia
end
section
variable {P:Program}{w:World}{K:Frag}{mg:SV}{base:Heap}
def bL.fnL {x:Str}{st:Stmt}{N ps:LS}{k:Nat}{g:FS}{h:Heap}(F:bL K x st)(X:K.In h)(G:h.Ns mainGlobals mg)(S:FnScope N ps (aE st))
  (O:∀(kV doc pm:Value)(an:Option Addr)(dF ct:Value)(us:LU),us.length=ps.length->bindArgs (fnOf x x (fG st) (bM st) (aE st) .none kV doc pm an dF ct) ⟨us,[]⟩=pure (ps.zip us))
  (hb:∀(f:Addr)(dF:Value)(A:Around)(outer:List PySem.Env)(s:Shared)(H:Hp)(E:XK),(∀c P,tabIn K x=some (c,P)->dF=.ref c)->dr k (A.deeper (envOfC x (aE st) s.z f dF))->xY (pN A2 P w K mg base N x (aE st) f dF A outer s H E).nox (bM st) g):
  Fn P w K mg base (k+1) x (ax g ps.length (N.length - ps.length)):=by
 obtain⟨f,fd,j,a⟩:=F;have o:=j;obtain⟨oc,od,kV,doc,pm,an,dF,ct,nJ,rfl,lk,p⟩:=o.ex;have hc:∀c P,tabIn K x=some (c,P)->dF=.ref c:=λc P e=>by
  unfold tabIn at e;simp only[a,lk]at e;split at e
  .split at e
   .split at e
    .cases e;rfl
    .cases e
   .cases e
  .cases e
 have len:∀vs H Q E,Lp K (ax g ps.length (N.length - ps.length)) vs H Q E->vs.length=ps.length:=λvs H Q E h=>by
  refine cX λW Y=>?_;obtain⟨B,ds,d,b,l,i,e,q⟩:=h;apply Y;clear Y;unfold ax at e;split at e
  .rename_i hl;rw[i.length];exact hl
  simp_all
 refine⟨f,_,ps,OH lk p S len λA outer s H vs Q E hr h=>⟨_,tj.nox (hb f dF A outer s H E hc hr),?_⟩,mg_of X G a,j.kp,j.binds O⟩;have M:=len vs H Q E h;refine cX λW Y=>?_;obtain⟨B,ds,d,b,l,i,e,q⟩:=h;apply Y;clear Y;unfold ax at e;rw[if_pos (by rw[<-i.length];exact M)]at e;have m:=ye (N:=N) l.1 l.2 i;rw[M]at m;split at e
 .rename_i d' b' n;cases e
  exact⟨B,H,_,_,⟨B,m⟩,n,λv H' N' r t u=>q v H' N' r t u⟩
 .rename_i ρ' n;cases e
  exact⟨B,H,_,_,⟨B,m⟩,n,λy H' ⟨N',s'⟩=>q .non H' N' s'.ext .non X9⟩
 simp_all
end
inductive kj (X:Cx)(N':List Str)(scope:Scope)(cl:List (Str×Addr)):Nat->List Nat->Prop where
 |nil {j:Nat}(h:N'.length=j):kj X N' scope cl j []
 |cons {j i:Nat}{r:List Nat}{x:Str}(h1:N'[j]? = some x) (h2:X.N[i]? = some x) (h3:X.env.kindOf x=some .cell\/X.env.kindOf x=some .free)
   (h4:scope.names.lookup x=some .free) (h5:cl.lookup x=X.env.cells.lookup x) (t:kj X N' scope cl (j+1) r):kj X N' scope cl j (i::r)
theorem kj.len:∀ {j:Nat}{cap:LN},kj X N' scope cl j cap->N'.length=j+cap.length
 |_,_,.nil h=>by rw[h];rfl
 |j,i::r,.cons _ _ _ _ _ t=>by rw[t.len,vE];lia
theorem kj.get:∀ {j:Nat}{cap:LN}{k i:Nat},kj X N' scope cl j cap->cap[k]? = some i->∃x,N'[j+k]? = some x/\X.N[i]? = some x/\(X.env.kindOf x=some .cell\/X.env.kindOf x=some .free) /\
  scope.names.lookup x=some .free/\cl.lookup x=X.env.cells.lookup x
 |_,_,_,_,.nil _,e=>by simp at e
 |j,_,0,_,.cons h1 h2 h3 h4 h5 _,e=>by simp at e;subst e;exact⟨_,h1,h2,h3,h4,h5⟩
 |j,_,k+1,i,.cons _ _ _ _ _ t,e=>by
  obtain⟨x,q,r⟩:=t.get (by simpa using e);exact⟨x,N9,r⟩
noncomputable abbrev yL (X:Cx)(N':LS)(scope:Scope)(cl:List (Str×Addr))(q:Str)(A:Around)(f c:Addr)(s:Shared)(H:Hp):Cx:=
 { X with A:=A.deeper (envX q scope s.z f (.ref c) cl),N:=N',s₀:=s,H₀:=H,env:=envX q scope s.z f (.ref c) cl,outer:=X.stack,stack:=envX q scope s.z f (.ref c) cl::X.stack,ex:=[],fn:=λ_=>false,calm:=true,pn:=[],xe:=λ_ _=>False }
structure LamSc (X:Cx)(scope:Scope)(cl:List (Str×Addr))(y:Str):Prop where
 clos:closureFor scope X.env=pure cl
 nocell:∀z∈scope.names,z.2≠.cell
 kind:scope.kind=.function
 co:scope.isCoroutine=false
 gen:scope.isGenerator=false
 par:scope.names.lookup y=some .local
 sub:∀x c,cl.lookup x=some c->X.env.cells.lookup x=some c
 has:∀x,scope.names.lookup x=some .free->∃c,cl.lookup x=some c
def Vv (h1:∀z∈scope.names,z.2≠.cell)(h2:scope.kind=.function)(h3:scope.isCoroutine=false)(M:scope.isGenerator=false)(hp:scope.names.lookup y=some .local)
  (O:(scope.names.all λz=>!(z.2 == NameKind.free) || (X.env.cells.lookup z.1).isSome)=true):LamSc X scope (dm scope.names X.env.cells []) y:=by
 have h4:∀z∈scope.names,z.2=.free->(X.env.cells.lookup z.1).isSome=true:=λz hz e=>by
  grind
 exact⟨tH _ [] h4,h1,h2,h3,M,hp,λx c e=>mw _ [] (λy d q=>by cases q) e,λx h=>by
  have:=mz _ [] (fU h) (h4 _ (fU h) rr);exact uU this⟩
section
variable {X:Cx}{af:AO}{σ:St}{H:Hp}{s:Shared}{A:Around}{N':LS}{scope:Scope}{cl:List (Str×Addr)}{q y:Str}{cap:LN}
def MP (S:LamSc X scope cl y)(t:N'[0]? = some y)(cp:kj X N' scope cl 1 cap)(I:Inv X af σ H s)(B:A.frames=some X.stack)(hh:A.handled=none)(r:aD v u)
  (C:h₁.Ns s.z (λx=>[(y,u)].reverse.lookup x)) (hk:∀b o,s.heap.get? b=some o->h₁.get? b=some o):
  Inv (yL X N' scope cl q A f c s H) [] (some v::xZ 0 cap σ) H { s with heap:=h₁,toks:=tk }:=by
 have M:∀b:Addr,b∉(yL X N' scope cl q A f c s H).ex:=λb z=>absurd (show b∈([]:List Addr)from z) X9;refine⟨⟨I.ok.mod,S.kind,rr,rr,vT _,λx z d e1 e2=>I.ok.inj x z d (S.sub _ _ e1) (S.sub _ _ e2),λx hx=>?_,(λx d e=>by cases e),λ_=>hh,Around.frames_deeper B,.inr ⟨rr,rr⟩,λb z=>absurd z (M b),I.bs,vR I.ok.bsz I.sz,λb _ _=>M b,λb z=>absurd z (M b),I.stack,I.stkFree⟩,
  rr,I.bare,Un.kept hk,⟨_,C,λi x j e1 e2 E=>?_⟩,λx d e=>?_,I.hok.fresh (vT _),λx d e=>I.freeC x d (S.sub _ _ e),λp hp=>absurd (show p∈([]:AO)from hp) X9,I.hok.kept hk,?_⟩
 .have hx':=hx;rcases hx' with hx'|hx'
  .exact absurd rr (S.nocell _ (fU hx'))
  .exact S.has x hx'
 .cases i with
  |zero=>
   have l:=e1;rw[t]at l;cases l;have O:=by simpa using e2
   cases O
   exact⟨u,r,.inl ⟨S.par,X9⟩⟩
  |succ k=>
   have O:=by simpa using e2
   obtain⟨k',g,F,g1,a⟩:=we O;have:k=k':=N9
   subst this;obtain⟨n,n1,n2,n3,n4,n5⟩:=cp.get g1;have:n=x:=by
    lia
   subst this;have h:σ[g]? = some (some j):=by
    cases z:σ[g]? with
    |none=>rw[z]at a;cases a
    |some w=>rw[z]at a;cases w with
     |none=>cases a
     |some w=>cases a;rfl
   obtain⟨m,_,hl⟩:=I.loc;obtain⟨u',ru,lk⟩:=hl g n j n2 h (by
    rcases n3 with n3|n3
    .exact .inr (.inl n3)
    .exact .inr (.inr n3))
   refine⟨u',ru,.inr ⟨.inr n4,?_⟩⟩;rcases lk with⟨l1,_⟩|⟨_,d,l2,D⟩
   .lia
   .obtain⟨ob,ho,hd⟩:=D;exact⟨d,by rw[n5];exact l2,ob,hk _ _ ho,hd⟩
 .obtain⟨w,ob,ho,hd⟩:=I.cell x d (S.sub _ _ e);exact⟨w,ob,hk _ _ ho,hd⟩
 .have:=cp.len;unfold xZ;rw[this];simp;lia
def MQ (S:LamSc X scope cl y)(l:N'[0]? = some y)(cp:kj X N' scope cl 1 cap)(I:Inv X af σ H s)
  (m:A.frames=some X.stack) (hh:A.handled=none) (M:A.depth<recursionLimit) (n:IG H f q params body scope cl)
  (O:∀pm c h u,bindArgs (kla_fn "<lambda>" q params body scope cl pm (.ref c) h) ⟨[u],[]⟩=pure [(y,u)])
  (hb:∀(f c:Addr)(s:Shared)(H:Hp),JE (yL X N' scope cl q A f c s H) body fb)
  (rep:eA X.K B σ ρ) (p:aH B H) (r:aD v u) (i:Is X.K B v d) (e:fb (some (d,false)::cj 0 cap ρ)=some (d',b')) (x:Fin X.K B H d' b' Q):
  wpAny (model X.prog X.w) A (call (.ref f) [u]) (EP X af σ Q) (λ_ _=>False) s:=by
 refine cX λk W=>?_;obtain⟨pm,c,h,P,oc,u',ws,t,hf,hc,hd,hv⟩:=n;apply W;clear W;have ho:=(I.hok f _ hf).1;have C:=(I.hok c _ hc).1;refine wpAny_call (codeAny_mono (R:=λr s'=>CR A2 X.stack X.prog X.w H s Q (λ_ _ _=>False) r s') ?_ λr s' hq=>?_)
 .refine kla_callFunE M ho rr S.co S.gen rr ⟨c,oc,ws,t,rr,C,hd,hv⟩ ?_;rw[O];refine wY (wpAny_newFunctionEnv S.nocell (λz hz=>by rw[uT hz];exact S.par) (λk D a=>⟨I.nolimit.fresh _ a,?_⟩) S.kind);have E:=λb o e=>a.extBut b o (vS (vX e)) (vZ _ e);have J:=MP (f:=f) (c:=c) (q:=q) (tk:=s.toks+1) S l cp I m hh r D E;refine kla_codeExpr (wpAny_mono (hb f c s H [] _ _ H Q J ⟨B,_,d',b',p,⟨rep.tb,λj F G z=>?_⟩,e,x⟩) (λw s' hw=>?_) λ_ _ z=>z.elim)
  .cases j with
   |zero=>
    simp_all
   |succ j=>
    obtain⟨w,h1,h2⟩:=(rep.caps ).at' j F G (by simpa using z);simp_all
  .obtain⟨L,H',g,rv,N⟩:=hw;exact⟨L,H',g.os,g.bare,g.base,g.hok,rv,N⟩
 .cases r with
  |error e=>exact False.elim hq
  |ok fl=>
   cases fl with
   |ret w=>exact I.after hq
   |next=>exact False.elim hq
   |brk=>exact False.elim hq
   |cont=>exact False.elim hq
end
end DL
namespace DL
open PySem PySem.Spec PySem.W PyProof.Rows L2
section
variable {X:Cx}{af:AO}{σ:St}{H:Hp}{s:Shared}{h':Heap}{t':Nat}
def oh (I:Inv X ((p,o)::af) σ H s):∀x c,X.env.cells.lookup x=some c->c≠p:=λx c e z=>by
 have M:=I.pin _ (mY _ mX);obtain⟨v,ob,ho,hd⟩:=I.cell x c e;simp_all
def jE (I:Inv X (p::af) σ H s):Inv X af σ H s:=I.pins_of λq hq=>I.pin q (mY _ (mZ _ hq))
def fY (I:Inv X ((p,o)::af) σ H s)(h0:X.s₀.z<=p)(hp:∀q∈X.pn++af,q.1≠p)(k:∀b u,b≠p->s.heap.get? b=some u->h'.get? b=some u)(O:h'.get? p=some o')(a:∀v,o'.data≠.cell v):
  Inv X ((p,o')::af) σ H { s with heap:=h',toks:=t' }:=by
 have M:=I.pin _ (mY _ mX);have J:=(jE I).turned (t':=t') k M.2.1 M.2.2.1 (.inr h0) (oh I) hp;refine J.pins_of λq hq=>?_;rcases vP hq with rfl|hq
 .simp_all
 .exact J.pin q (mY _ hq)
def p7 (I:Inv X af σ H s)(k:∀b u,s.heap.get? b=some u->h'.get? b=some u)(hs:s.z<=p)(M:h'.get? p=some o)(O:∀v,o.data≠.cell v):Inv X ((p,o)::af) σ H { s with heap:=h',toks:=t' }:=by
 have J:=I.kept (t':=t') k;refine J.pins_of λq hq=>?_;rcases vP hq with rfl|hq
 .exact⟨M,I.hok.fresh hs,ne_of_gt (vQ I.lt hs),I.nofs hs,O⟩
 .exact J.pin q (mY _ hq)
def MT (I:Inv X ((p,o)::af) σ H s)(h0:X.s₀.z<=p)(hp:∀q∈X.pn++af,q.1≠p)(k:∀b u,b≠p->s.heap.get? b=some u->h'.get? b=some u)(d:∃u,h'.get? p=some u)
  (new:bj X.prog X.w (upd H p ob) h' p ob):Inv X af σ (upd H p ob) { s with heap:=h',toks:=t' }:=by
 have M:=I.pin (p,o) (mY _ mX);have hn:=M.2.1;have cs:=oh I;refine(jE I).step (g':=s.gens) (d':=s.drawn) (ch:=[p]) (λb hb=>?_) (λb u _ _ hc e _=>k b u (λz=>hc (by simp[z])) e) (λb u _ _ hc e _=>⟨u.slots,k b u (λz=>hc (by simp[z])) e⟩) (λb u hc _ n=>by simp_all[a6])
  (λb u hc e=>⟨u,k b u (λz=>hc (by simp[z])) e⟩) (λb xs e=>by rw[a6 (aN e hn)];exact e) (λb u w e=>by rw[a6 (aN e hn)];exact e) (λb q e=>by rw[a6 (aN e hn)];exact e) (λm hm=>?_) (λb u e=>?_) I.bare
 .have z:b=p:=by simpa using hb
  subst z;exact⟨.inr h0,M.2.2.1,cs,hp⟩
 .obtain⟨O,es,a,ho,r⟩:=hm;exact⟨O,es,a,k _ O (λz=>M.2.2.1 z.symm) ho,r⟩
 .by_cases z:b=p
  .simp_all[au]
  .rw[a6 z]at e;refine(I.hok b u e).stay (λc v hc q=>k c v ?_ q) (λc q=>?_) (λc xs q=>?_) λc w xs q=>?_
   .lia
   .rw[a6 (aN q hn)];exact q
   .rw[a6 (aN q hn)];exact q
   .rw[a6 (aN q hn)];exact q
end
def CB (X:Cx)(A:Around)(σ:St)(M:Value)(B O:Hp)(kf:D->Option D):Prop:=
 ∀(af:AO)(s:Shared)(H N:Hp)(v:V)(u:Value)(d d':D),Inv X af σ H s->aH O H->aH B N->aH N H->Is X.K N v d->aD v u->kf d=some d' ->
  wpAny (model X.prog X.w) A (call M [u]) (EP X af σ λa H'=>∃N',Ext N N' H H'/\Is X.K N' a d') (λ_ _=>False) s
def JK (X:Cx)(A:Around)(e:Expr)(kf:Env->D->Option D):Prop:=∀(af:AO)(s:Shared)(σ:St)(H B:Hp)(ρ:Env)(Q:QV)(E:QV),Inv X af σ H s->aH B H->eA X.K B σ ρ ->
 (∀O M s1,Inv X af σ M s1->aH H M->CB X A σ (.ref O) B M (kf ρ)->Q (.ref O) s1)->wq X (eval e X.env) Q E s
section
variable {X:Cx}{A:Around}
@[simp] def yM (cap:LN)(M:FE):Env->D->Option D:=λρ d=>(M (some (d,false)::cj 0 cap ρ)).map (·.1)
def R8 (hx:x∈j6)(L:yK X.K x)(hc:∀c P,tabIn X.K x=some (c,P)->X.env.code=.ref c)(hq:X.env.qual ++ "<lambda>" = sD x)
  (O:defaultsOf params X.env=([],[])) (S:LamSc X scope (dm scope.names X.env.cells []) y) (b:N'[0]? = some y) (cp:kj X N' scope (dm scope.names X.env.cells []) 1 cap) (g:A.frames=X.A.frames) (hr:dr (k+1) A)
  (M:∀pm c h u,bindArgs (kla_fn "<lambda>" (sD x) params body scope (dm scope.names X.env.cells []) pm (.ref c) h) ⟨[u],[]⟩=pure [(y,u)])
  (hb:∀(f c:Addr)(s:Shared)(H:Hp),dr k (yL X N' scope (dm scope.names X.env.cells []) (sD x) A f c s H).A->JE (yL X N' scope (dm scope.names X.env.cells []) (sD x) A f c s H) body fb):JK X A (.Lambda params body scope pos) (yM cap fb):=by
 intro af s σ H B ρ Q E I i rep j;refine IH hx L hc hq O S.clos I (rep.tb.mono i) λf l s1 m n o=>j f l s1 m n ?_;intro t s' H' N v u d d' a m1 m2 p iv r e;obtain⟨⟨d2,b2⟩,e1,e2⟩:=oY e;cases e2
 exact MQ S b cp a (g.trans a.ok.frames) hr.hd hr.depth (o.mono m1) M (λf c s H=>hb f c s H (hr.deeper _)) (rep.mono m2) p r iv e1 λw H2 N2 q i2 _=>⟨N2,q,i2⟩
@[simp] noncomputable def FM (g:LD->OB):Env->D->Option D:=λ_ d=>(g [d]).map (·.1)
def OV (F:Fn X.prog X.w X.K X.mg X.base k x g)(hr:dr k A)(f:A.frames=X.A.frames)(h:Gl X x)(O:(x == ("__debug__" : Str))=false):JK X A (.Name x p) (FM g):=by
 intro af s σ H B ρ Q E I m rep i;obtain⟨ad,fd,ps,b,hm,hk,hb⟩:=F.ex;refine vj I h hm ?_ O;refine i ad H s I (.refl H) ?_;intro n s' H' N v u d d' a m1 m2 j iv r e;obtain⟨⟨d2,b2⟩,e1,e2⟩:=oY e;cases e2
 have sp:Lp _ g _ H' (λc H2=>∃N',Ext N N' H' H2/\Is _ N' c d2) (λ_ _ _=>False):=⟨N,[d],d2,b2,⟨j,rep.tb.mono m2⟩,.cons iv .nil,e1,λc H2 N2 l i2 _=>⟨N2,l,i2⟩⟩;have hl:[u].length=ps.length:=by have:=b.len _ _ _ _ sp;simp_all
 have M:=a.env0;have bb:=hb s' [u] a.kIn (by simpa using hl);refine wpAny_call (codeAny_mono (b.run A _ s' H' _ _ _ _ _ hr ⟨f.trans M.frames,M.mod,M.bs,M.bsz,M.funs,M.frf,M.hok,M.bare⟩ bb (.cons r .nil) sp) λr s' hq=>?_);cases r with
 |error e=>exact False.elim hq
 |ok fl=>
  cases fl with
  |ret w=>exact a.after hq
  |next=>exact False.elim hq
  |brk=>exact False.elim hq
  |cont=>exact False.elim hq
end
noncomputable def jF (f:D->Option D):LD->Option LD
 |[]=>some []
 |d::ds=>(f d).bind λx=>(jF f ds).map (x :: ·)
theorem mG:∀ {ds ks:LD},jF f ds=some ks->ks.length=ds.length
 |[],_,h=>by simp_all[jF]
 |d::ds,_,h=>by
  refine eX h λa h1 h=>?_;refine eZ h λr h2 h=>?_;subst h;simp[mG h2]
theorem q8:∀ {ds ks:LD},jF f ds=some ks->∀ {i:Nat}{d:D},ds[i]? = some d->∃k,ks[i]? = some k/\f d=some k
 |[],_,h,i,d,e=>by simp at e
 |d::ds,_,h,0,e,q=>by
  refine eX h λa h1 h=>?_;refine eZ h λr h2 h=>?_;grind
 |d::ds,_,h,i+1,e,q=>by
  refine eX h λa h1 h=>?_;refine eZ h λr h2 h=>?_;subst h;obtain⟨k,M,O⟩:=q8 h2 (by simpa using q);simp_all
structure KK (X:Cx)(A:Around)(kd:List D->Option (List (List At)))(ok:List (List At)->Bool):Prop where
 len:∀ {ds:List D}{ks:List (List At)},kd ds=some ks->ks.length=ds.length
 ask:∀ {af:List (Addr×Obj)}{σ:St}{H:Hp}{s:Shared}(_:Inv X af σ H s) {ys:List V}{ds:List D}{ks:List (List At)}{its:List Value},aL ys its->IsL X.K H ys ds->kd ds=some ks->ok ks=true->da ks=true ->
  (0<ks.length->∀ {E:Value->Shared->Prop}{Q:SortKind->Shared->Prop},Q (tuples' true) s->wpAny (model X.prog X.w) A (keyKind' its.toArray) Q E s) /\
  ∀(i j:Nat)(C:Bool->Shared->Prop)(s1:Shared),i<ks.length->j<ks.length->s1=s->(∀s',s'=s->C (qw (Ls ks) i j) s')->kas_ask X.prog X.w A (tuples' true) its i j C s1
def R9:KK X A dQ dP:=⟨oe,λI _ _ _ _ r i e hf hc=>have hp:=p6 I r i e;⟨λhn _ _ q=>ID hp hf hn q,MN hc hp⟩⟩
section
variable {X:Cx}{af:AO}{σ:St}{s:Shared}
theorem tY (r:aD x u):∀ {vs:LV}{us:LU},aL vs us->aL (vs++[x]) (us++[u])
 |_,_,.nil=>.cons r .nil
 |_,_,.cons h t=>.cons h (tY r t)
def cx:∀v,(Obj.mk c od (.seq its n) sl).data≠.cell v:=λv z=>by cases z
def Bk
  (I:Inv X ((a,seqObj "list" its.toArray n)::af) σ H s) (h0:X.s₀.z<=a) (hp:∀q∈X.pn++af,q.1≠a) (L4:CB X A σ qv B H kf) (rv:aL vs its) (iv:IsL X.K B vs ds) (sB:aH B H)
  (M:KK X A kd ok) (Y:jF kf ds=some jv) (ek:kd jv=some ks) (hc:da ks=true) (hf:ok ks=true) (BY:its.length<64)
  (h:∀(p:Array Nat)(s':Shared)(H' N:Hp),pz its.length p->Up (Ls ks) p its.length->Inv X af σ (upd H' a (.lst (p.toList.map λi=>vs.getD i .non))) s'->Ext B N H H'->H' a=none->P (.done (.ret .none)) s'):
  wpAny (model X.prog X.w) A (ksk_tree a qv false) P E s:=by
 have t:=I.pin (a,seqObj "list" its.toArray n) (mY _ mX)
 have EN:vs.length=its.length:=rv.length
 have SF:ds.length=vs.length:=iv.length.symm
 have hkd:jv.length=ds.length:=mG Y
 have hks:ks.length=jv.length:=M.len ek
 have hz:its.length<=sizeLine:=by rw[sizeLine_eq];lia
 have hna:H a=none:=t.2.1
 obtain⟨e1,Z⟩:∃e1,(s.heap.update a (Obj.mapSeq λ_=>(#[]:AV))).get? a=some (seqObj "list" #[] e1):=⟨_,get?_update_seq t.1 λ_=>#[]⟩
 have u1:=vW s.heap a (Obj.mapSeq λ_=>(#[]:AV))
 have I1:=fY (t':=s.toks) I h0 hp (λb u n q=>(u1.2 b n).trans q) Z cx
 let h2:Heap:=(s.heap.update a (Obj.mapSeq λ_=>(#[]:AV))).push (seqObj "tuple" its.toArray 0)
 have x:Inv X ((a,seqObj "list" #[] e1)::af) σ H { s with heap:=h2 }:=I1.kept (t':=s.toks) λb u q=>vZ _ q
 let kS:Addr:=h2.objs.size
 have I3:Inv X ((kS,seqObj "list" #[] 0)::(a,seqObj "list" #[] e1)::af) σ H { s with heap:=h2.push (seqObj "list" #[] 0) }:=p7 (s:={ s with heap:=h2 }) (t':=s.toks) x (λb u q=>vZ _ q) (vT _) (vY _ rr) cx
 have k0:X.s₀.z<=kS:=x.sz
 have kp:∀q∈X.pn++((a,seqObj "list" #[] e1)::af),q.1≠kS:=λq hq=>vS (vX (x.pin q hq).1)
 unfold ksk_tree
 refine wX (listItems_at t.1 rr ?_)
 refine wX (listUpdate_at t.1 rr ?_ (by simpa using hz) (uN _))
 refine wX (seqEpoch_at Z rr ?_)
 refine wX (wpAny_newTuple ?_ (by simp_all))
 refine wX (wpAny_newList ?_ (uN _))
 refine wpAny_holding ?_
 show wpAny (model X.prog X.w) A (ksk_rest a qv false its.toArray e1 (.ref kS)) P E { s with heap:=h2.push (seqObj "list" #[] 0) }
 unfold ksk_rest
 refine wX (wpAny_rule ?_)
 rw[List.forIn_toArray]
 refine wX (ksk_fold (λi s'=>∃(H' N:Hp)(kA:AV)(e:Nat)(a9:LV),Inv X ((kS,seqObj "list" kA e)::(a,seqObj "list" #[] e1)::af) σ H' s'/\Ext B N H H'/\aL a9 kA.toList/\IsL X.K N a9 (jv.take i)) its 0 _
  ⟨H,B,#[],0,[],I3,.refl sB,.nil,by simpa using IsL.nil⟩ ?step ?done)
 case step=>
  rintro j u s' hu ⟨H',N,kA,e,a9,J,c,rk,ik⟩
  simp only[Nat.zero_add]at ik |-
  have hj:j<its.length:=(vV hu).1
  obtain⟨d,hd⟩:∃d,ds[j]? = some d:=⟨_,vU N9⟩
  obtain⟨v,hv,P7⟩:=iv.get hd
  obtain⟨kd,Y9,y⟩:=q8 Y hd
  obtain⟨u',SK,ru⟩:=rv.get hv
  rw[hu]at SK;cases SK
  have kl:kA.size=j:=by
   have z1:=rk.length
   have z2:=ik.length
   simp_all<;>lia
  refine wX (wpAny_attempt (wpAny_mono (L4 _ s' H' N v u d kd J c.hh c.bn c.nh (P7.mono c.bn) ru y) (λw D hw=>?_) λ_ _ hF=>hF.elim))
  obtain⟨v',F,J',rv',N',x2,i2⟩:=hw
  have g:=J'.pin (kS,seqObj "list" kA e) (mY _ mX)
  obtain⟨c2,La⟩:∃c2,(D.heap.update kS (Obj.mapSeq (·.push w))).get? kS=some (seqObj "list" (kA.push w) c2):=⟨_,get?_update_seq g.1 (·.push w)⟩
  have u2:=vW D.heap kS (Obj.mapSeq (·.push w))
  refine wX (listUpdate_at g.1 rr ?_ (by rw[sizeLine_eq];lia) (vR (le_of_eq (Array.size_push ..)) (by rw[sizeLine_eq];lia)))
  refine wY ⟨rr,F,N',kA.push w,c2,a9++[v'],fY (t':=D.toks) J' k0 kp (λb q n z=>(u2.2 b n).trans z) La cx,c.trans x2,?_,?_⟩
  .simp_all[tY]
  .rw[take_add_one,Y9];exact(ik.mono x2.bn).append (.cons i2 .nil)
 case done=>
  rintro s' ⟨H',N,kA,e,a9,J,c,rk,ik⟩
  have k:IsL X.K N a9 jv:=by
   grind
  have g:=J.pin (kS,seqObj "list" kA e) (mY _ mX)
  have L:=J.pin (a,seqObj "list" #[] e1) (mY _ (mZ _ mX))
  have ZW:H' a=none:=L.2.1
  have kz:kA.toList.length=its.length:=by rw[<-rk.length,k.length];lia
  have l:kA.size=its.length:=by simp_all
  refine wX (listItems_at g.1 rr ?_)
  have m:=M.ask J rk (k.mono c.nh) ek hf hc
  -- the end of the sort,for a permutation p
  have R:∀(st:SortSt)(p:Array Nat),arrOf st=p.map (kas_item (kA.toList.toArray.zip its.toArray))->failedOf st=none->pz its.length p->Up (Ls ks) p its.length ->
    wpAny (model X.prog X.w) A (ksk_tail a false e1 (.ref kS) st) P E s':=λst p ea ef ap up=>by
   have eo:(arrOf st).map (·.2)=List.toArray (p.toList.map λi=>its.getD i Value.none):=kat_snds kz ea
   have GW:∀i∈p.toList,i<vs.length:=λi hi=>by
    have:=mem_range.mp (ap.perm.mem_iff.mp hi)
    simp_all
   obtain⟨c3,S⟩:∃c3,(s'.heap.update kS (Obj.mapSeq λ_=>(#[]:AV))).get? kS=some (seqObj "list" #[] c3):=⟨_,get?_update_seq g.1 λ_=>#[]⟩
   have u3:=vW s'.heap kS (Obj.mapSeq λ_=>(#[]:AV))
   have J3:=jE (fY (t':=s'.toks) J k0 kp (λb q n z=>(u3.2 b n).trans z) S cx)
   have f:=J3.pin (a,seqObj "list" #[] e1) (mY _ mX)
   obtain⟨T,o⟩:∃T,((s'.heap.update kS (Obj.mapSeq λ_=>(#[]:AV))).update a (Obj.mapSeq λ_=>(arrOf st).map (·.2))).get? a=some (seqObj "list" ((arrOf st).map (·.2)) T):=⟨_,get?_update_seq f.1 λ_=>(arrOf st).map (·.2)⟩
   have u4:=vW (s'.heap.update kS (Obj.mapSeq λ_=>(#[]:AV))) a (Obj.mapSeq λ_=>(arrOf st).map (·.2))
   have so:((arrOf st).map (·.2)).size=its.length:=by rw[eo];simp only[vH,vI,vG,ap.size]
   unfold ksk_tail
   try dsimp only
   refine wX (listUpdate_at g.1 rr ?_ (by rw[l,sizeLine_eq];lia) (uN _))
   refine wX (wpAny_letGo ?_)
   refine wX (seqEpoch_at f.1 rr ?_)
   refine wX (listUpdate_at f.1 rr ?_ (uN _) N9)
   rw[ef]
   simp only[bne_self_eq_false,uV,if_false]
   refine wY (h p _ H' N ap up (MT (s:={ s' with heap:=s'.heap.update kS (Obj.mapSeq λ_=>(#[]:AV)) }) (t':=s'.toks) J3 h0 hp (λb q n z=>(u4.2 b n).trans z) ⟨_,o⟩ ?_) c ZW)
   refine⟨by rw[vI,vG,ap.size];exact hz,p.toList.map λi=>its.getD i Value.none,T,tX rv p.toList GW,?_⟩
   rw[<-eo];exact o
  unfold ksk_end
  try dsimp only
  simp only[uV,if_false]
  have U:kA=kA.toList.toArray:=X9
  by_cases O:its.toArray.size<2
  .rw[if_pos O,if_pos O]
   refine wX (wY ?_)
   rw[StateT.run_pure]
   refine wX (wY ?_)
   have hsm:its.length<2:=by simpa using O
   refine R _ (List.toArray (List.range its.length)) ?_ rr ⟨X9,X9⟩ ?_
   .show kA.zip its.toArray=_
    have:=kas_range (kA.toList.toArray.zip its.toArray)
    rw[show(kA.toList.toArray.zip its.toArray).size=its.length by simp[l]]at this
    rw[this]
   .intro i j hij hj
    grind
  .rw[if_neg O,if_neg O]
   have V:2<=its.length:=by simp at O;lia
   rw[U]
   refine wX (m.1 N9 ?_)
   obtain⟨p,r1,r2,r3⟩:=IA (n:=its.length) (rk:=Ls ks) N9
   refine wX (wpAny_mono (kat_run (E:=E) (ks:=kA.toList) (vs:=its) (κ:=tuples' true) (s:=s') (Q:=λW s2=>s2=s'/\arrOf W=p.map (kas_item (kA.toList.toArray.zip its.toArray))/\failedOf W=none)
    (G:=λp' s2=>p'=p/\s2=s') kz V BY (λp' W s2 _ e2 e3 e4=>by
     lia) (Run.wp (λs2=>s2=s') (λi j C s2 hi hj e hC=>m.2 i j C s2 N9 N9 e hC) r1 rr λs2 e=>⟨rr,e⟩)) (λr s2 hr=>?_) λ_ _ z=>z)
   grind
end
theorem yN {α M:Type}{f:α->M}:∀ {l:List α},(l.map f).Nodup->l.Nodup
 |[],_=>nodup_nil
 |a::l,h=>by
  rw[uY,nodup_cons]at h;exact nodup_cons.mpr ⟨λz=>h.1 (uS ⟨a,z,rr⟩),yN h.2⟩
def iH (ks:List (List At))(ds:LD):LD:=(dq (λp:List At×D=>bZ p.1) (ks.zip ds)).map (·.2)
def II {α a:Type}(d:α)(e:a):∀ {O:List α}{M:List a},O.length=M.length->(List.range M.length).map (λi=>(O.getD i d,M.getD i e))=O.zip M:=λ{O M} h=>by
 apply ext_getElem?;intro i;by_cases hi:i<M.length
 .simp_all
 .simp[hi,h]
theorem MU {α d:Type}{M:List α}{O:List d}(nd:M.Nodup){a:α}{b c:d}(h1:(a,b)∈M.zip O)(h2:(a,c)∈M.zip O):b=c:=by
 obtain⟨i,hi⟩:=mem_iff_getElem?.mp h1;obtain⟨j,hj⟩:=mem_iff_getElem?.mp h2;grind[List.getElem_inj]
def Bl {ds:LD}{ks:List (List At)}{p:Array Nat}(hl:ks.length=ds.length)(hc:da ks=true)(nd:ks.Nodup)(ap:pz ds.length p)(O:Up (Ls ks) p ds.length):p.toList.map (λi=>ds.getD i .non)=iH ks ds:=by
 unfold iH;have e:p.toList.map (λi=>(ks.getD i [],ds.getD i .non))=dq (λp:List At×D=>bZ p.1) (ks.zip ds):=by
  apply jD
  .intro x hx y hy e;have mx:=(of_mem_zip hx).1;have g:=(of_mem_zip hy).1;grind[nZ,MU]
  .have:=ap.perm.map (λi=>(ks.getD i [],ds.getD i D.non));rw[II [] D.non hl]at this;exact this
  .rw[List.pairwise_iff_getElem];intro i j hi hj M;have hsz:=ap.size;have h:i<p.size:=by simpa using hi
   have a:j<p.size:=by simpa using hj
   have:=O i j (le_of_lt M) N9;unfold bK Ls at this;have b:p.getD i 0=p[i]:=by simp_all
   have c:p.getD j 0=p[j]:=by simp_all
   have l:=ap.lt (k:=j) N9;have d:ks.getD (p.getD j 0) []∈ks:=by
    simp_all
   have f:¬bZ (ks.getD (p.getD j 0) [])<bZ (ks.getD (p.getD i 0) []):=λz=>by
    have:=C6 (cs:=ks.map bZ) (uS ⟨_,d,rr⟩) z;lia
   simp only[List.getElem_map,Array.getElem_toList];unfold Lr;rw[<-b,<-c];exact f
 rw[<-e,uP];rfl
@[simp] def wG (kd:LD->Option (List (List At)))(ok:List (List At)->Bool)(f:FE)(kf:Env->D->Option D):FE:=λρ=>(f ρ).bind λx=>match x.1 with
 |.lst ds=>(jF (kf ρ) ds).bind λM=>(kd M).bind λks=>if ks.length<64/\da ks=true/\ok ks=true/\(ks.map bZ).Nodup then some (.lst (iH ks ds),true)else none
 |_=>none
@[simp] abbrev wH:FE->(Env->D->Option D)->FE:=wG dQ dP
section
variable {X:Cx}{e ke:Expr}{p pos kp:Pos}
def OW {kd:LD->Option (List (List At))}{ok:List (List At)->Bool}(M:KK X X.A.in1.in1 kd ok){f:FE}{kf:Env->D->Option D}(hm:X.mg "sorted" = none)(he:JE X e f)(hk:JK X X.A.in1.in1 ke kf)(T:Gl X "sorted")
  (k:starEach [e] X.env=[(false,eval e X.env)]) (n:backTo pos (starEach [e] X.env)=(false,eval e X.env)::backTo pos (starEach [] X.env)) (r:(backTo pos (starEach [e] X.env)).any (·.1)=false)
  (U:(backToKw pos (keywordEach [⟨some "key",ke,kp⟩] X.env)).all (·.1.isSome)=true) (t:(backToKw pos (keywordEach [⟨some "key",ke,kp⟩] X.env)).any (·.1.isNone)=false)
  (x:(backToKw pos (keywordEach [⟨some "key",ke,kp⟩] X.env)).filterMap (·.1)=[("key" : Str)]):
  JE X (.Call (.Name "sorted" p) [e] [⟨some "key",ke,kp⟩] pos) (wG kd ok f kf):=by
 intro af s σ H Q I h;obtain⟨B,ρ,d,b,V,rep,O,q⟩:=h;obtain⟨⟨xd,xb⟩,ex,O⟩:=oX O;cases xd<;>try (cases O;done)
 rename_i ds;refine eX O λF G O=>?_;refine eX O λks ek O=>?_;split at O
 .rename_i hh;obtain⟨BY,hc,hf,nd⟩:=hh;cases O
  refine wpAny_Call_Name_kw (eE I T hm (u:=.builtin "sorted") rr ?_);refine callWith_kw (bD ((cC he dL k) pos af s σ H (λvs g=>∃v N,vs=[v]/\Ext B N H g/\Is X.K N v (.lst ds)) I ⟨B,ρ,_,_,V,rep,ex,λv g N a i1 _=>⟨v,N,rr,a,i1⟩⟩) λus s1 W=>?_) n r U t;obtain⟨Y,g,Z,r1,v,N,rfl,a,i1⟩:=W;obtain⟨u,rfl,ru⟩:=eB r1;refine kws_cons (hk af s1 σ g N ρ _ _ Z a.nh (rep.mono a.bn) λy H2 s2 j m2 L4=>kws_nil ?_);rw[x];show wpAny _ _ (call (.builtin "sorted") [u] [(("key" : Str),.ref y)]) _ _ _;cases i1
  rename_i l vs hq z;cases ru
  have L:aH N H2:=a.nh.trans m2;refine j.lisE (L.seq hq) λits rv pl hz=>?_;have EN:vs.length=its.length:=rv.length;have SF:ds.length=vs.length:=z.length.symm;have hkd:F.length=ds.length:=mG G;have hks:ks.length=F.length:=M.len ek;have C:its.length<64:=N9
  refine call_function_entry_kw kind_sorted plain_sorted entry_sorted (ksk_s1 _ _) ?_;unfold Builtin.«sorted»;refine wX (m:=checkCount "sorted" 1 1 _) (wY (wX (collect_list pl.isList (wX (wpAny_newList ?_ (by rw[sizeLine_eq];lia))) (by rw[sizeLine_eq];lia))));let h1:Heap:=(s2.heap.push (seqObj "list" #[] 0)).update s2.z (Obj.mapSeq (· ++ its.toArray));have hsz:h1.objs.size=s2.z+1:=by grind[Heap.size_update,size_push']
  have Yc:∀b o,s2.heap.get? b=some o->h1.get? b=some o:=λb o q=>(Heap.get?_update_ne _ _ _ _ (vS (vX q))).trans (vZ _ q);have P:Inv X ((h1.objs.size,seqObj "list" its.toArray 0)::af) σ H2 { s2 with heap:=h1.push (seqObj "list" its.toArray 0) } :=
   p7 (t':=s2.toks) j (λb u q=>vZ _ (Yc b u q)) (by rw[hsz];exact le_succ _) (vY _ rr) cx
  have p3:=P.pin (h1.objs.size,seqObj "list" its.toArray 0) (mY _ mX);show wpAny (model X.prog X.w) X.A.in1 (holding [.ref h1.objs.size] (call (.builtin "list.sort") [.ref h1.objs.size] [(("key" : Str),.ref y)])>>=_) _ _ { s2 with heap:=h1.push (seqObj "list" its.toArray 0) };refine wX (wpAny_holding (wpAny_call_entry_kw slot_list_sort ⟨_,p3.1,rr⟩ entry_list_sort ?_ (ksk_l1 _ _)));show wpAny (model X.prog X.w) X.A.in1.in1 (Builtin.«list.sort» ⟨[.ref h1.objs.size],[(Str.ofString "key",.ref y)]⟩) _ _ _;rw[ksk_t1];refine Bk P (vR j.sz (by rw[hsz];exact le_succ _)) (λq hq=>by rw[hsz];exact vS (lt_succ_of_lt (vX (j.pin q hq).1))) L4 rv z L M G ek hc hf C λpm s' H' N' ap R J c hn=>⟨_,rr,wY ⟨_,rr,?_⟩⟩;have r:its.length=ds.length:=N9
  rw[r]at ap R;have er:=Bl N9 hc (yN nd) ap R;have GW:∀i∈pm.toList,i<ds.length:=λi hi=>mem_range.mp (ap.perm.mem_iff.mp hi);have E:=yI (z.mono c.bn) pm.toList GW;rw[er]at E;have S:Ext B N' H H':=(a.trans (.grow a.nh m2)).trans c;have hN:N' h1.objs.size=none:=c.nh.free hn;have x5:=S.trans (Ext.laid (o:=.lst (pm.toList.map λi=>vs.getD i .non)) c.nh hn);exact⟨.ref h1.objs.size,_,J,rr,q _ _ _ x5 (.lst (fF.of au) (E.mono (Ext.laid (o:=.lst (pm.toList.map λi=>vs.getD i .non)) c.nh hn).bn)) λ_=>⟨_,_,_,rr,rr,S.hh.free hn,au,E.mono (Ext.laid (o:=.lst (pm.toList.map λi=>vs.getD i .non)) c.nh hn).bn⟩⟩
 .cases O
end
noncomputable def cmP {f:String->CmpOp->Builtin}(_:f "__lt__" .Lt=Builtin.«tuple.__lt__»):=f
def cmF:String->CmpOp->Builtin:=cmP rr
section
variable {prog:Program}{w:World}{A:Around}{E:QV}{s:Shared}{op:CmpOp}
def fX.type (h:fX s.heap xs v):s.TypeIs v "tuple":=by
 obtain⟨a,o,its,n,rfl,ho,hc,_⟩:=h;exact⟨o,ho,hc⟩
inductive GeW (prog:Program)(w:World)(A:Around)(s:Shared)(op:CmpOp)(dJ r:Bool):List (Value×Value)->Prop
 |nil (h:dJ=r):GeW prog w A s op dJ r []
 |eq {u v:Value}{l:List (Value×Value)}(h:SeqAt.EqAt A s u v true) (t:GeW prog w A s op dJ r l):GeW prog w A s op dJ r ((u,v)::l)
 |ne {u v:Value}{l:List (Value×Value)}(h:SeqAt.EqAt A s u v false) (t:∀(Q E:Value->Shared->Prop),Q (.bool r) s->wpAny (model prog w) A (richCompare op u v) Q E s):GeW prog w A s op dJ r ((u,v)::l)
def MV {nm:String}(O:s.TypeIs (.ref b) "tuple")(c:s.heap.get? a=some oa)(d:oa.data=.seq its na)(e:s.heap.get? b=some ob)(f:ob.data=.seq EO nb)
  (W:GeW prog w A s op dJ r (its.toList.zip EO.toList)) (hz:Builtin.Tuple.tupleCompareSizes op its.size EO.size=.bool dJ) (g:op=.Lt\/op=.Gt\/op=.GtE) (q:P (.done (.ret (.bool r))) s):wpAny (model prog w) A (cmF nm op ⟨[.ref a,.ref b],[]⟩) P E s:=by
 show wpAny _ _ (isInstance _ _>>=_) _ _ s;refine wX (wpAny_isInstance O isSubtype_tuple_tuple ?_);refine wX (wpAny_tupleItemsOf c d ?_);refine wX (wpAny_tupleItemsOf e f ?_);refine wX ?_;refine wpAny_forIn_list _ (λaj z s'=>z.1=none/\s'=s/\GeW _ w A s op _ r aj) _ ?_ ?_ _ _ ⟨rr,rr,W⟩
 .rintro⟨u,v⟩ aj z s' ⟨hz,rfl,W⟩;cases W with
  |eq h t=>
   refine wX (h _ _ _ _ ?_);simp_all[wY]
  |ne h t=>
   refine wX (h _ _ _ _ ?_);have t:=t (λv M=>v=.bool r/\M=s') E ⟨rr,rr⟩;rcases g with rfl|rfl|rfl<;>exact wX (wpAny_rule (wX (wpAny_mono t (λv M hv=>by obtain⟨rfl,rfl⟩:=hv;exact wX (wY (wY (wY q)))) λ_ _ z=>z)))
 .rintro⟨j,k⟩ s' ⟨i,rfl,W⟩;subst i;refine wY ?_;cases W with
  |nil h=>
   simp_all
structure CmR (prog:Program)(w:World)(A:Around)(s:Shared)(op:CmpOp)(R:List At->List At->Bool->Prop)(fl:Nat->Nat->Bool):Prop where
 ei:∀ {a xs ys r},R (.i a::xs) (.i a::ys) r->R xs ys r
 es:∀ {a xs ys r},R (.s a::xs) (.s a::ys) r->R xs ys r
 ni:∀ {a c xs ys r},a≠c->R (.i a::xs) (.i c::ys) r->∀t u (Q E:Value->Shared->Prop),Q (.bool r) s->wpAny (model prog w) A (richCompare op (.int a t) (.int c u)) Q E s
 ns:∀ {a c xs ys r},a≠c->R (.s a::xs) (.s c::ys) r->∀t u (Q E:Value->Shared->Prop),Q (.bool r) s->wpAny (model prog w) A (richCompare op (.str a t) (.str c u)) Q E s
 mx:∀ {a c xs ys r},¬R (.i a::xs) (.s c::ys) r/\¬R (.s c::xs) (.i a::ys) r
 en:∀ {xs r},(R [] xs r->fl 0 xs.length=r)/\(R xs [] r->fl xs.length 0=r)
 fs:∀ {m n},fl (m+1) (n+1)=fl m n
def IJ (C:CmR prog w A s op R fl)(xs ys:List At)(its M:LU)(r1:Paired A4 xs its)(b:Paired A4 ys M)(h:R xs ys r):GeW prog w A s op (fl xs.length ys.length) r (its.zip M):=by
 induction r1 generalizing ys M with
 |nil=>exact .nil (C.en.1 h)
 |@cons x v xs its r1 f d=>
  cases b with
  |nil=>exact .nil (C.en.2 h)
  |@cons y u ys M b O=>
   cases x with
   |i a=>
    cases y with
    |s _=>exact absurd h C.mx.1
    |i c=>
     obtain⟨t,rfl⟩:=r1;obtain⟨u,rfl⟩:=b;have he:=SeqAt.EqAt.int_int (A:=A) (s:=s) a t c u;rw[vE,vE,C.fs];by_cases e:a=c
     .subst e;rw[show(a == a)=true by simp]at he;exact .eq he (d ys M O (C.ei h))
     .rw[show(a == c)=false by simp[e]]at he;exact .ne he (C.ni e h t u)
   |s a=>
    cases y with
    |i _=>exact absurd h C.mx.2
    |s c=>
     obtain⟨t,rfl⟩:=r1;obtain⟨u,rfl⟩:=b;have he:=SeqAt.EqAt.str_str (A:=A) (s:=s) a t c u;rw[vE,vE,C.fs];by_cases e:a=c
     .subst e;rw[show(a == a)=true by simp]at he;exact .eq he (d ys M O (C.es h))
     .rw[show(a == c)=false by simp[e]]at he;exact .ne he (C.ns e h t u)
def Vw:CmR prog w A s .Lt (λxs ys r=>aU xs ys=some r) (λm n=>decide (m<n)) where
 ei h:=by rwa [aU,if_pos rr]at h
 es h:=by rwa [aU,if_pos rr]at h
 ni e h _ _ _ _ q:=by rw[aU,if_neg e]at h;cases h;exact PyProof.Rows.lt_int q
 ns e h _ _ _ _ q:=by rw[aU,if_neg e]at h;cases h;exact PySem.P.lt_str q
 mx:=by simp[aU]
 en:=λ{xs}=>by cases xs<;>simp[aU]
 fs:=X9
def Vx:CmR prog w A s .Gt (λxs ys r=>aU ys xs=some r) (λm n=>decide (n<m)) where
 ei h:=by rwa [aU,if_pos rr]at h
 es h:=by rwa [aU,if_pos rr]at h
 ni e h _ _ _ _ q:=by rw[aU,if_neg (Ne.symm e)]at h;cases h;exact PyProof.Rows.gt_int q
 ns e h _ _ _ _ q:=by rw[aU,if_neg (Ne.symm e)]at h;cases h;exact PySem.P.gt_str q
 mx:=by simp[aU]
 en:=λ{xs}=>by cases xs<;>simp[aU]
 fs:=X9
def IK (hx:fX s.heap xs (.ref a)):∃o its n,s.heap.get? a=some o/\o.data=.seq its n/\Paired A4 xs its.toList/\xs.length=its.size:=by
 refine cX λG g=>?_;obtain⟨M,o,its,n,e,ho,hc,hd,p⟩:=hx;apply g;cases e
 exact⟨o,its,n,ho,hd,p,by exact eI p⟩
def OX {nm:String}(C:CmR prog w A s op R fl)(hz:∀m n,Builtin.Tuple.tupleCompareSizes op m n=.bool (fl m n))(M:op=.Lt\/op=.Gt\/op=.GtE)(hx:fX s.heap xs (.ref a))(hy:fX s.heap ys (.ref b))(h:R xs ys r)(q:P (.done (.ret (.bool r))) s):wpAny (model prog w) A (cmF nm op ⟨[.ref a,.ref b],[]⟩) P E s:=by
 have hb:=hy.type;refine cX λG g=>?_;obtain⟨_,_,_,ho,hd,p,l1⟩:=IK hx;obtain⟨_,_,_,O,c,d,l2⟩:=IK hy;apply g;exact MV hb ho hd O c (IJ C _ _ _ _ p d h) (by rw[l1,l2];exact hz _ _) M q
def IL (hx:fX s.heap xs x)(hy:fX s.heap ys y)(h:aU xs ys=some r)(hu:A.units<cLine)(q:Q (.bool r) s):wpAny (model prog w) A (richCompare .Lt x y) Q E s:=by
 have M:=hx.type;have ty:=hy.type;obtain⟨a,_,_,_,rfl,_⟩:=id hx;obtain⟨b,_,_,_,rfl,_⟩:=id hy;exact wpAny_richCompare_same_room M ty slot_tuple_lt (wpAny_call_entry slot_tuple_lt M PySem.F.entry_tuple_lt (OX Vw (λ_ _=>rr) (.inl rr) hx hy h ⟨_,rr,(λe=>nomatch e),q⟩) (PySem.F.args_tuple_lt_2 _ _)) hu
def OY (hx:fX s.heap xs x)(hy:fX s.heap ys y)(h:aU ys xs=some r)(hu:A.units<cLine)(q:Q (.bool r) s):wpAny (model prog w) A (richCompare .Gt x y) Q E s:=by
 have M:=hx.type;have ty:=hy.type;obtain⟨a,_,_,_,rfl,_⟩:=id hx;obtain⟨b,_,_,_,rfl,_⟩:=id hy;exact wpAny_richCompare_same_room M ty slot_tuple_gt (wpAny_call_entry slot_tuple_gt M PySem.F.entry_tuple_gt (OX Vx (λ_ _=>rr) (.inr (.inl rr)) hx hy h ⟨_,rr,(λe=>nomatch e),q⟩) (PySem.F.args_tuple_gt_2 _ _)) hu
end
def oM:List At×D->List (List At×D)->D
 |b,[]=>b.2
 |b,x::r=>if aU b.1 x.1=some true then oM x r else oM b r
def oN:List At×D->List (List At×D)->D
 |b,[]=>b.2
 |b,x::r=>if aU x.1 b.1=some true then oN x r else oN b r
noncomputable def mmP {f:String->CmpOp->Builtin}(_:f "max" .Gt=Builtin.«max.loop»):=f
def mmL:String->CmpOp->Builtin:=mmP rr
noncomputable def mmQ {f:String->Builtin}(_:f "max" = Builtin.«max»):=f
def mmF:String->Builtin:=mmQ rr
structure MM (nm lp:String)(ns:Str)(op:CmpOp)(lt:List At->List At->Option Bool)(go:List At×D->List (List At×D)->D):Prop where
 hn:(toString nm++toString ".loop" : String)=lp
 en:entryFor table lp=some (mmL nm op)
 pl:plainId lp=true
 k2:builtinKind nm=none
 p2:plainId nm=true
 e2:entryFor table nm=some (mmF nm)
 ka:∀a v:Value,argsOk nm ⟨[a],[(Str.ofString "key",v)]⟩
 bt:bootBuiltins ns=some (.builtin nm)
 n1:ns ≠ "__name__"
 n2:(ns == ("__debug__" : Str))=false
 g0:∀b,go b []=b.2
 g1:∀b x r,go b (x::r)=if lt b.1 x.1=some true then go x r else go b r
 cg:∀ {ks:List (List At)},da ks=true->∀ {a b},a∈ks->b∈ks->∃r,lt a b=some r
 rc:∀ {prog:Program}{w:World}{A:Around}{E:Value->Shared->Prop}{s:Shared}{xs ys:List At}{x y:Value}{r:Bool}{Q:Value->Shared->Prop},fX s.heap xs x->fX s.heap ys y->lt ys xs=some r->A.units<cLine->Q (.bool r) s->wpAny (model prog w) A (richCompare op x y) Q E s
def mmx:MM "max" "max.loop" "max" .Gt aU oM:=
 ⟨H9,PySem.F.entry_max_loop,PySem.F.plain_max_loop,PySem.F.kind_max,PySem.F.plain_max,PySem.F.entry_max,λ_ _=>by kernel_rfl,rr,H9,H9,λ_=>rr,λ_ _ _=>rr,λh _ _ a b=>⟨_,fM h a b⟩,OY⟩
def mmn:MM "min" "min.loop" "min" .Lt (λa b=>aU b a) oN:=
 ⟨H9,PySem.F.entry_min_loop,PySem.F.plain_min_loop,PySem.F.kind_min,PySem.F.plain_min,PySem.F.entry_min,λ_ _=>by kernel_rfl,rr,H9,H9,λ_=>rr,λ_ _ _=>rr,λh _ _ a b=>⟨_,fM h b a⟩,IL⟩
section
variable {X:Cx}{af:AO}{σ:St}
def Bm (J:Inv X ((M,O)::(a2,o2)::af) σ H' s'):Inv X ((a2,o2)::(M,O)::af) σ H' s':=
 J.pins_of λq hq=>J.pin q (by
  grind)
def qA (hp:∀q∈X.pn++af,q.1≠a)(h:S≠a):∀q∈X.pn++((S,o)::af),q.1≠a:=λq hq=>by
 grind
def kG (I:Inv X af σ H s)(r:aD v u)(i:Is X.K H v d)(e:Bh d=some k):fX s.heap k u:=by
 have:=p6 I (.cons r .nil) (.cons i .nil) (by simp [dQ,e];rfl);cases this;assumption
inductive MK (X:Cx)(af:List (Addr×Obj))(σ:St)(S It l:Addr)(o:Obj)(j:Nat)(N H:Hp)(y:List At×D)(u ku:Value)(s:Shared):Prop
 |mk (H2 N2:Hp) (v kv:V) (kd:D) (oI:Obj) (J:Inv X ((S,o)::(It,oI)::af) σ H2 s) (GI:s.heap.IsListIter It l (j+1)) (x:Ext N N2 H H2) (ru:aD v u) (iv:Is X.K N2 v y.2) (rk:aD kv ku) (ik:Is X.K N2 kv kd) (ek:Bh kd=some y.1)
def IM {E:QV}{It:Addr}(hh:X.A.handled=none)(t:CB X X.A.in1 σ (.ref qa) B H1 kf)(hq:fF X.K B l vs)(iv:IsL X.K B vs ds)(x:jF kf ds=some jv)(ek:dQ jv=some ks)(C:X.s₀.z<=It)(D:∀q∈X.pn++((S,o)::af),q.1≠It)
  (F:l≠It) (hz:(ks.zip ds)[j]? = some y) (I:Inv X ((S,o)::(It,oI)::af) σ H s) (GI:s.heap.IsListIter It l j) (M:Ext B N H1 H):
  wpAny (model X.prog X.w) X.A.in1 (pyNext (.ref It)) (λr s1=>∃u,r=some u/\wpAny (model X.prog X.w) X.A.in1 (call (.ref qa) [u]) (MK X af σ S It l o j N H y u) (λ_ _=>False) s1) E s:=by
 refine cX λW Y=>?_;obtain⟨its,rv,pl,_⟩:=I.list ((M.bn.trans M.nh).seq hq);obtain⟨hk,hd⟩:=getElem?_zip_eq_some.mp hz;obtain⟨v,hv,g⟩:=iv.get hd;obtain⟨kd,h,d⟩:=q8 x hd;obtain⟨u,hu,ru⟩:=rv.get hv;apply Y;have G:=by
  have:=tW ek (i:=j) (vV h).1;rw[vF,h,vF,hk]at this;exact this
 refine(Walks.list (A:=X.A.in1) hh It l F _).item j _ _ _ (by simpa using(vV hu).1) ⟨GI,pl.isList⟩ λu' h' Q J a L=>?_;have k:=by simpa using J
 rw[hu]at k;cases k;obtain⟨O,f,P,c⟩:=id a.1;exact⟨u,rr,bD (t _ _ H N v u y.2 kd (Bm (fY (Bm I) C D (λb o n e=>L b o (by simpa using n) e) f (λv z=>by rw[c]at z;cases z))) M.hh M.bn M.nh (g.mono M.bn) ru d) λku s2 ⟨kv,H2,m,rk,N2,p,ik⟩=>
  ⟨H2,N2,v,kv,kd,O,m,⟨O,(m.pin (It,O) (mY _ (mZ _ mX))).1,P,c⟩,p,ru,g.mono (M.bn.trans p.bn),rk,ik,G⟩⟩
def MW {nm lp:String}{ns:Str}{op:CmpOp}{lt:List At->List At->Option Bool}{go:List At×D->List (List At×D)->D}(M:MM nm lp ns op lt go){J:Value}{l S It:Addr}{vs:LV}{ds Y:LD}{ks:List (List At)}{B L:Hp}{kf:D->Option D}{d0:D}{R:Result->Shared->Prop}(hh:X.A.handled=none)(hu:X.A.in1.units<cLine)(L4:CB X X.A.in1 σ J B L kf)(P:∃a,J=.ref a)(hq:fF X.K B l vs)(iv:IsL X.K B vs ds)
  (Z:jF kf ds=some Y) (ek:dQ Y=some ks) (hc:da ks=true) (S0:X.s₀.z<=S) (I0:X.s₀.z<=It) (Yd:∀q∈X.pn++af,q.1≠S) (SM:∀q∈X.pn++af,q.1≠It) (F:S≠It) (SO:S≠l) (SN:l≠It)
  (hR:∀(s':Shared)(H' N:Hp)(v:V)(u:Value),Inv X af σ H' s'->Ext B N L H'->aD v u->Is X.K N v d0->R (.ok (.ret u)) s'):
  ∀(r j:Nat)(s:Shared)(H N:Hp)(d O:Value)(k t:V)(m x:D)(p:List At)(c:Nat)(oI:Obj),vs.length - j=r->j<=vs.length->Inv X ((S,seqObj "list" #[d,O] c)::(It,oI)::af) σ H s->s.heap.IsListIter It l j->Ext B N L H ->
   aD k d->Is X.K N k m->aD t O->Is X.K N t x->Bh x=some p->p∈ks->go (p,m) ((ks.zip ds).drop j)=d0 ->
   codeAny (model X.prog X.w) X.A (.builtin lp ⟨[.ref It,J,.ref S],[]⟩) R s:=by
 obtain⟨qa,rfl⟩:=P;intro r;induction r with
 |zero=>
  intro j s H N d O k t m x p c oI hr hj I GI f r1 i1 Q i2 g mk hd;have T:=I.pin (S,seqObj "list" #[d,O] c) (mY _ mX);have sB:aH B H:=f.bn.trans f.nh;refine I.lisE (sB.seq hq) λits rv pl _=>?_;have hl:=pl.isList;have W:=Walks.list (prog:=X.prog) (w:=X.w) (A:=X.A.in1) hh It l SN its.toArray;have hsz:its.toArray.size=its.length:=vH ..;have EN:vs.length=its.length:=rv.length;have SF:ds.length=its.length:=by rw[<-iv.length];exact rv.length
  have P6:m=d0:=by
   rw[List.drop_of_length_le (by rw[length_zip];lia)]at hd;rw[M.g0]at hd;exact hd
  subst P6;refine codeAny_builtin M.en ?_;rw[Around.under_plainId M.pl _];show wpAny _ X.A.in1 (seqItems? (.ref S)>>=_) _ _ _;refine wX (wpAny_seqItems T.1 rr ?_);show wpAny _ X.A.in1 (tryCatch (pyNext (.ref It)) _>>=_) _ _ _;refine wX (wpAny_tryCatch (W.done _ _ _ ⟨by grind,hl⟩ λh' SG GH=>?_));have J1:Inv X ((It,oI)::(S,seqObj "list" #[d,O] c)::af) σ H s:=Bm I;have U:∀q∈X.pn++((S,seqObj "list" #[d,O] c)::af),q.1≠It:=qA SM F;have J2:=
   (jE J1).turned (t':=SG) (λb o n e=>GH b o (by simpa using n) e) (J1.pin (It,oI) (mY _ mX)).2.1 (J1.pin (It,oI) (mY _ mX)).2.2.1 (.inr I0) (oh J1) U
  have C:=J2.pin (S,seqObj "list" #[d,O] c) (mY _ mX);obtain⟨c2,La⟩:∃c2,(h'.update S (Obj.mapSeq λ_=>(#[]:AV))).get? S=some (seqObj "list" #[] c2):=⟨_,get?_update_seq C.1 λ_=>#[]⟩;have G:=vW h' S (Obj.mapSeq λ_=>(#[]:AV));show wpAny _ X.A.in1 (updateSeq S (λ_=>#[])>>=_) _ _ _;refine wX ?_;refine wpAny_updateSeq C.1 rr (wX (wpAny_letGo (wY ?_)));exact hR _ H N k d (jE (fY (t':=SG) J2 S0 Yd (λb o n e=>(G.2 b n).trans e) La cx)) f r1 i1
 |succ r ih=>
  intro j s H N d O k t m x p c oI hr hj I GI f r1 i1 Q i2 g mk hd;have ju:j<(ks.zip ds).length:=by rw[length_zip,oe ek,mG Z,<-iv.length];simp<;>lia
  have T:=I.pin (S,seqObj "list" #[d,O] c) (mY _ mX);have hz:=vU ju;rw[List.drop_eq_getElem_cons ju,M.g1]at hd;generalize (ks.zip ds)[j]=y at hz hd;have hm:y.1∈ks:=vL (getElem?_zip_eq_some.mp hz).1;obtain⟨r,h⟩:=M.cg hc mk hm;refine codeAny_builtin M.en ?_;rw[Around.under_plainId M.pl _];show wpAny _ X.A.in1 (seqItems? (.ref S)>>=_) _ _ _;refine wX (wpAny_seqItems T.1 rr ?_);show wpAny _ X.A.in1 (tryCatch (pyNext (.ref It)) _>>=_) _ _ _;refine wX (wpAny_tryCatch (bD (IM hh L4 hq iv Z ek I0 (qA SM F) SN hz I GI f) λ_ s1 ⟨u,e,h1⟩=>?_));subst e;refine wX (wpAny_tryCatch (wpAny_holding (wpAny_mono h1 (λku s2 ⟨H2,N2,v,kv,kd,YA,E,Yg,i,ru,P7,rk,ik,TB⟩=>?_) λ_ _ z=>z.elim)));have t1:=kG E rk (ik.mono i.nh) TB;have t2:=kG E Q (i2.mono (i.bn.trans i.nh)) g;refine wX (wpAny_tryCatch (wpAny_holding (wX (M.rc t1 t2 h hu ?_))));refine wX (wpAny_holding (wpAny_truthy_bool ?_));refine wX (wpAny_letGo (wY ?_));cases r with
  |true=>
   rw[if_pos h]at hd;have G:=vW s2.heap S (Obj.mapSeq λ_=>#[u,ku]);simp only[if_true];have Yh:=E.pin (S,seqObj "list" #[d,O] c) (mY _ mX);refine wX (wpAny_updateSeq Yh.1 rr (wX (wpAny_letGo ?_)));rw[M.hn];obtain⟨o,g1,g2⟩:=Yg;exact wY ⟨plainId_quiet M.pl _,ih (j+1) _ H2 N2 u ku v kv y.2 kd y.1 _ YA N9 N9 (fY (t':=s2.toks) E S0 (qA Yd F.symm) (λb o n e=>(G.2 b n).trans e) (get?_update_seq Yh.1 λ_=>#[u,ku]) cx) ⟨o,(G.2 It F.symm).trans g1,g2⟩ (f.trans i) ru P7 rk ik TB hm hd⟩
  |false=>
   rw[if_neg (by rw[h];simp)]at hd;simp only[uV,if_false];refine wX (wpAny_letGo ?_);rw[M.hn];exact wY ⟨plainId_quiet M.pl _,ih (j+1) _ H2 N2 d O k t m x p c YA N9 N9 E Yg (f.trans i) r1 (i1.mono i.bn) Q (i2.mono i.bn) g mk hd⟩
end
@[simp] def RA (go:List At×D->List (List At×D)->D)(f:FE)(kf:Env->D->Option D):FE:=λρ=>(f ρ).bind λx=>match x.1 with
 |.lst ds=>(jF (kf ρ) ds).bind λM=>(dQ M).bind λks=>if da ks=true then match ks.zip ds with
  |[]=>none
  |y::r=>some (go y r,false)
  else none
 |_=>none
@[simp] def CC:=RA oM
@[simp] def CD:=RA oN
section
variable {X:Cx}{e ke:Expr}{p pos kp:Pos}
def OZ {nm lp:String}{ns:Str}{op:CmpOp}{lt:List At->List At->Option Bool}{go:List At×D->List (List At×D)->D}(M:MM nm lp ns op lt go){f:FE}{kf:Env->D->Option D}{k:Nat}(hm:X.mg ns=none)(he:JE X e f)(hk:JK X X.A.in1 ke kf)(hr:dr k X.A)(hg:Gl X ns)
  (j:starEach [e] X.env=[(false,eval e X.env)]) (m:backTo pos (starEach [e] X.env)=(false,eval e X.env)::backTo pos (starEach [] X.env)) (A5:(backTo pos (starEach [e] X.env)).any (·.1)=false)
  (xF:(backToKw pos (keywordEach [⟨some "key",ke,kp⟩] X.env)).all (·.1.isSome)=true) (r:(backToKw pos (keywordEach [⟨some "key",ke,kp⟩] X.env)).any (·.1.isNone)=false)
  (t:(backToKw pos (keywordEach [⟨some "key",ke,kp⟩] X.env)).filterMap (·.1)=[("key" : Str)]):
  JE X (.Call (.Name ns p) [e] [⟨some "key",ke,kp⟩] pos) (RA go f kf):=by
 intro af s σ H Q I h;obtain⟨B,ρ,d,b,sB,rep,O,q⟩:=h;obtain⟨⟨xd,xb⟩,ex,O⟩:=oX O;cases xd<;>try (cases O;done)
 rename_i ds;refine eX O λjv G O=>?_;refine eX O λks ek O=>?_;split at O
 .rename_i hc;split at O
  .cases O
  .rename_i y aj w;cases O
   refine wpAny_Call_Name_kw (eE I hg hm M.bt ?_ M.n1 M.n2);refine callWith_kw (bD ((cC he dL j) pos af s σ H (λvs g=>∃v N,vs=[v]/\Ext B N H g/\Is X.K N v (.lst ds)) I ⟨B,ρ,_,_,sB,rep,ex,λv g N a i1 _=>⟨v,N,rr,a,i1⟩⟩) λus s1 hA=>?_) m A5 xF r;obtain⟨vs1,g,I1,r1,v,N,rfl,a,i1⟩:=hA;obtain⟨u,rfl,ru⟩:=eB r1;refine kws_cons (hk af s1 σ g N ρ _ _ I1 a.nh (rep.mono a.bn) λx H2 s2 c m2 J=>kws_nil ?_);rw[t];cases i1
   rename_i l vs hq C;cases ru
   have L:aH N H2:=a.nh.trans m2;refine c.lisE (L.seq hq) λits rv pl hz=>?_;have P:l<s2.z:=by
    obtain⟨ol,T8,_⟩:=pl.isList;exact vX T8
   have R:(ks.zip ds)[0]? = some y:=by rw[w];rfl
   have E:=vL (getElem?_zip_eq_some.mp R).1;refine kmk_tree M.k2 M.p2 M.e2 (M.ka _ _) ?_;refine wX (wpAny_of_eq (show Builtin.Builtins.bindParams nm ["key","default"] 0 ⟨[],[(Str.ofString "key",.ref x)]⟩=pure [some (.ref x),none]from rr) ?_);refine wX (wY ?_);refine wX (wpAny_pyIter_list pl.isList ?_);refine wX (wpAny_newList ?_ (uN _));rw[M.hn];let It:Addr:=s2.z;let oI:Obj:={ cls:=.type "list_iterator",data:=.fields #[.ref l,.int 0 0] };let S:Addr:=(s2.heap.push oI).objs.size;have hS:S=s2.z+1:=size_push' ..;have i:S≠It:=by rw[hS];exact ne_of_gt (Nat.lt_succ_self _)
   have J1:Inv X ((It,oI)::af) σ H2 { s2 with heap:=s2.heap.push oI }:=p7 (t':=s2.toks) c (λb u q=>vZ _ q) (vT _) (vY _ rr) (λv z=>by cases z);have J2:Inv X ((S,seqObj "list" #[] 0)::(It,oI)::af) σ H2 _:=p7 (s:={ s2 with heap:=s2.heap.push oI }) (t':=s2.toks) J1 (λb u q=>vZ _ q) (vT _) (vY _ rr) cx;have T:X.s₀.z<=It:=c.sz;have U:X.s₀.z<=S:=by rw[hS];exact le_succ_of_le c.sz
   have V:∀q∈X.pn++af,q.1≠It:=λq hq=>vS (vX (c.pin q hq).1);have W:∀q∈X.pn++af,q.1≠S:=λq hq=>by rw[hS];exact vS (lt_succ_of_lt (vX (c.pin q hq).1))
   have Y:l≠It:=vS P;have SO:S≠l:=by rw[hS];exact ne_of_gt (lt_succ_of_lt P)
   have hh:X.A.handled=none:=hr.hd;have hu:X.A.in1.units<cLine:=by have:=hr.un;lia
   have pS:=J2.pin (S,seqObj "list" #[] 0) (mY _ mX);have pI:=J2.pin (It,oI) (mY _ (mZ _ mX));refine wY ⟨plainId_quiet M.pl _,?_⟩;refine codeAny_builtin M.en ?_;rw[Around.under_plainId M.pl _];refine wX (wpAny_seqItems pS.1 rr ?_);refine wX (wpAny_tryCatch (bD (IM hh J hq C G ek T (qA V i) Y R J2 ⟨oI,pI.1,rr,rr⟩ (.refl L)) λ_ s1 ⟨u,e,h1⟩=>?_));subst e;refine wX (wpAny_tryCatch (wpAny_holding (wpAny_mono h1 (λku Z ⟨H3,N3,v,kv,kd,YA,J4,⟨o,g1,g2⟩,x3,ru,P7,rk,ik,TB⟩=>?_) λ_ _ z=>z.elim)));have Yh:=J4.pin (S,seqObj "list" #[] 0) (mY _ mX);have u2:=vW Z.heap S (Obj.mapSeq λ_=>#[u,ku]);refine wX (wpAny_updateSeq Yh.1 rr ?_);rw[M.hn];have F:1<=vs.length:=by
    have:=congrArg List.length w;rw[length_zip,vE,<-C.length]at this;grind
   exact wY ⟨plainId_quiet M.pl _,MW M (S:=S) (It:=It) hh hu J ⟨x,rr⟩ hq C G ek hc U T W V i SO Y (λs' H' N' v' u' J' x' r' i'=>⟨v',H',J',r',q _ _ _ ((a.trans (.grow a.nh m2)).trans x') i' X9⟩) _ 1 _ H3 N3 u ku v kv y.2 kd y.1 _ YA rr F
    (fY (t':=Z.toks) J4 U (qA W i.symm) (λb o n e=>(u2.2 b n).trans e) (get?_update_seq Yh.1 λ_=>#[u,ku]) cx) ⟨o,(u2.2 It i.symm).trans g1,g2⟩ x3 ru P7 rk ik TB E (by rw[w];rfl)⟩
 .cases O
end
section
variable {X:Cx}
@[simp] def YI:D->D->OB
 |.tup xs,.tup ys=>(iY xs).bind λas=>(iY ys).bind λbs=>(aU as bs).map λr=>(.bl r,false)
 |_,_=>none
@[simp] def YJ:D->D->OB
 |.tup xs,.tup ys=>(iY xs).bind λas=>(iY ys).bind λbs=>(aU bs as).map λr=>(.bl r,false)
 |_,_=>none
def Vy (hu:X.A.units+40<cLine):c8 X (compareOp .Lt) (rD X.K YI):=by
 intro af s σ H x y v u Q I O a q;refine eS q λB dx c d b M f g e q=>?_;cases dx<;>try (simp at e)
 cases c<;>try (simp at e)
 refine eX e λas e1 e=>?_;refine eX e λbs e2 e=>?_;refine eZ e λr h e=>?_;cases e
 exact IL (kG I O (f.mono M) e1) (kG I a (g.mono M) e2) h N9 ⟨.bl r,H,I,rr,q.one M (.bl r)⟩
def Vz (hu:X.A.units+40<cLine):c8 X (compareOp .Gt) (rD X.K YJ):=by
 intro af s σ H x y v u Q I O a q;refine eS q λB dx c d b M f g e q=>?_;cases dx<;>try (simp at e)
 cases c<;>try (simp at e)
 refine eX e λas e1 e=>?_;refine eX e λbs e2 e=>?_;refine eZ e λr h e=>?_;cases e
 exact OY (kG I O (f.mono M) e1) (kG I a (g.mono M) e2) h N9 ⟨.bl r,H,I,rr,q.one M (.bl r)⟩
end
section
variable {X:Cx}{a b:Expr}{p pos:Pos}
@[simp] def iZ (f g:FE):FA:=λρ=>(f ρ).bind λx=>(g ρ).bind λy=>match x.1,y.1 with
 |.int i,.int j=>if -1000<=i/\i<=1000/\-1000<=j/\j<=1000 then some (bO i (j - i).toNat)else none
 |_,_=>none
def FN (hm:X.mg "range" = none)(h:JE X a f)(h':JE X b g)(d:Gl X "range")(hs:starEach [a,b] X.env=[(false,eval a X.env),(false,eval b X.env)])(O:starEach [b] X.env=[(false,eval b X.env)]):PI X tg (.Call (.Name "range" p) [a,b] [] pos) (Q5 X.K (iZ f g)):=by
 refine PI.to (EY d hm (eV h (eV h' l5 O) (by rw[hs,O])) hs O) λσ H R q=>?_;refine cX λG W=>?_;obtain⟨B,ρ,ds,e,r,M,q⟩:=q;obtain⟨⟨x,n⟩,ex,M⟩:=oX M;obtain⟨⟨y,o⟩,c,M⟩:=oX M;apply W;clear W;match x,y,ex,c,M with
 |.int i,.int j,ex,c,M=>
  dsimp at M;split at M
  .cases M
   refine⟨B,ρ,[.int i,.int j],e,r,by simp[ex,c],λvs k N1 l i1=>?_⟩;cases i1 with
   |cons i1 i2=>
    cases i1
    cases i2 with
    |cons i2 m=>
     cases i2;cases m
     exact⟨i,j,rr,N9,q _ k N1 l λ_=>yo i _⟩
  simp_all
end
end DL
namespace DL
open PySem PySem.Spec PyProof.Rows L2
section
variable {X:Cx}
@[simp] def xx9:D->D->OB
 |d,.tup [.ty n,.ty m]=>if Fx d=true then none else if n = "list"/\m = "tuple" then some (.bl (hW d == "list" || hW d == "tuple"),false)else none
 |_,_=>none
@[simp] def CF:LD->OB
 |[d,e]=>xx9 d e
 |_=>none
def FP (K:Frag)(d:D)(hd:∀n,d≠.ty n):PySem.W.kitAny K (.type (hW d)) [.type "list",.type "tuple"]=some (hW d == "list" || hW d == "tuple"):=by
 obtain⟨_,_,_,k4,k5⟩:=HU K d hd;unfold PySem.W.kitAny;rw[k4];cases hW d == "list" with
 |true=>rfl
 |false=>
  unfold PySem.W.kitAny;rw[k5];cases hW d == "tuple" with
  |true=>rfl
  |false=>rfl
def IN (I:Inv X af σ H s)(i:Is X.K H v d)(hd:∀n,d≠.ty n)(M:aD v u)(O:IsTup s.heap tp its.toArray)(e:PySem.W.kitAny X.K (.type (hW d)) its=some b)(h:∀tk,Q (.bool b) { s with toks:=tk }):
  wpAny (model X.prog X.w) A (call (.builtin "isinstance") [u,.ref tp]) Q E s:=by
 refine cX λG g=>?_;obtain⟨⟨cls,dd,data,sl⟩,ho,hc,n,a⟩:=id O;apply g;subst hc;subst a;cases i with
 |non=>cases (show u=Value.none from M);exact PySem.W.kia_tup PySem.W.kitx_none I.kIn True.intro ho e (λz=>nomatch z) h
 |bl y=>cases (show u=Value.bool y from M);exact PySem.W.kia_tup PySem.W.kitx_bool I.kIn True.intro ho e (λz=>nomatch z) h
 |int i=>obtain⟨t,q⟩:=(show ∃t,u=Value.int i t from M);cases q;exact PySem.W.kia_tup PySem.W.kitx_int I.kIn True.intro ho e (λz=>nomatch z) h
 |str y=>obtain⟨t,q⟩:=(show ∃t,u=Value.str y t from M);cases q;exact PySem.W.kia_tup PySem.W.kitx_str I.kIn True.intro ho e (λz=>nomatch z) h
 |ty n=>exact absurd rr (hd n)
 |dk h1 _ _=>
  cases M
  refine cX λG g=>?_;obtain⟨_,_,_,vs,_,o,es,c,e1,e2,_⟩:=(show bj X.prog X.w H s.heap _ (.dK _ _)from I.hok _ _ h1);apply g;exact PySem.W.kia_tup PySem.W.kitx_dict I.kIn ⟨o,e1,e2.1⟩ ho e (λz=>nomatch z) h
 |dt h1 _ _=>
  cases M
  refine cX λG g=>?_;obtain⟨_,_,xs,_,o,es,c,e1,e2,_⟩:=(show bj X.prog X.w H s.heap _ (.dT _)from I.hok _ _ h1);apply g;exact PySem.W.kia_tup PySem.W.kitx_dict I.kIn ⟨o,e1,e2.1⟩ ho e (λz=>nomatch z) h
 |tup O _=>
  cases M
  obtain⟨its,_,⟨o,h1,h2,_⟩,_⟩:=I.tuple O;exact PySem.W.kia_tup PySem.W.kitx_tuple I.kIn ⟨o,h1,h2⟩ ho e (λz=>nomatch z) h
 |lst hl _=>
  cases M
  refine cX λG g=>?_;obtain⟨its,_,⟨o,n,h1,h2,_⟩,_⟩:=I.list hl;apply g;exact PySem.W.kia_tup PySem.W.kitx_list I.kIn ⟨o,h1,h2⟩ ho e (λz=>nomatch z) h
def FQ:bu X (.builtin "isinstance") (A3 X.K CF):=by
 intro af s σ H xs us Q I rs q;refine e7 q λB ds d b M i e q=>?_;cases i with
 |nil=>cases e
 |@cons _ dx _ _ i1 i=>
  cases i with
  |nil=>cases e
  |cons i2 i=>
   cases i with
   |cons _ _=>cases e
   |nil=>
    cases i2<;>try (cases e)
    rename_i hs hl;cases hl with
    |nil=>cases e
    |cons c hl=>
     cases c<;>try (cases e)
     cases hl with
     |nil=>cases e
     |cons f hl=>
      cases f<;>try (cases e)
      cases hl with
      |cons _ _=>cases e
      |nil=>
       obtain⟨j,k,rfl,r1,g⟩:=Hi rs;change(if _ then _ else _)=_ at e;split at e
       .cases e
       .rename_i h;have hd:∀n,dx≠.ty n:=λn z=>by subst z;exact h rr
        split at e
        .rename_i hh;obtain⟨rfl,rfl⟩:=hh;cases e
         cases g
         refine I.tupE (aV M hs) λits rv p _=>?_;obtain⟨l,m,rfl,O,a⟩:=rv.two;cases O
         cases a
         exact IN I (i1.mono M) hd r1 p (FP X.K dx hd) λtk=>⟨.bl _,H,I.tok tk,rr,q.one M (.bl _)⟩
        .cases e
end
@[simp] noncomputable def jG:D->Option dh
 |.int i=>some (.inl i)
 |.str x=>some (.inr x)
 |_=>none
def oP {K:Frag}{B:Hp}{v:V}{d:D}{k:dh}(i:Is K B v d)(e:jG d=some k):v=kV k:=by
 cases i<;>simp [jG]at e<;>cases e<;>rfl
noncomputable def br {κ:Type}[DecidableEq κ]:List κ->LD->κ->Option D
 |k'::ks,d::ds,k=>if k'=k then some d else br ks ds k
 |_,_,_=>none
theorem qB {κ:Type}[DecidableEq κ]{K:Frag}{B:Hp}(k:κ):∀ {ks:List κ}{vs:LV}{ds:LD},ks.length=vs.length->IsL K B vs ds ->
  (∃v d,j4 (ks.zip vs) k=some v/\br ks ds k=some d/\Is K B v d)\/(j4 (ks.zip vs) k=none/\br ks ds k=none)
 |[],vs,ds,_,_=>.inr ⟨by cases vs<;>rfl,by cases ds<;>rfl⟩
 |k'::ks,[],_,h,_=>by simp at h
 |k'::ks,v::vs,_,h,.cons i is=>by
  rw[zip_cons_cons];unfold br;by_cases e:k'=k
  .rw[if_pos e];exact .inl ⟨v,_,mr e,rr,i⟩
  .rw[if_neg e,mu e];exact qB k (by simpa using h) is
section
variable {X:Cx}{o e i:Expr}{pos:Pos}
@[simp] def V0:D->D->OB
 |.dk ks vs,y=>(jG y).map λk=>((br ks vs k).getD .non,false)
 |_,_=>none
def IP {cb bA:Pos}{fo fe:FE}(hu:X.A.units+1<cLine)(ho:JE X o fo)(he:JE X e fe)(m:M1 X o "get" cb e bA):JE X (.Call (.Attribute o "get" cb) [e] [] bA) (f2 V0 fo fe):=by
 refine PE.to (xT hu ho he m) λσ H Q q=>?_;refine cX λG K=>?_;obtain⟨B,ρ,d,bb,c,r,M,q⟩:=q;refine eX M λx ex M=>?_;refine eX M λy f M=>?_;apply K;refine⟨B,ρ,x.1,x.2,c,r,ex,λv l N1 b i1 n=>?_⟩;obtain⟨xd,p⟩:=x;cases i1 with
 |@dk a ks vs ds ob h hl hs=>
  refine eZ M λk hk M=>?_;cases M
  refine⟨a,rr,.inl ⟨_,_,.inl (b.nh _ _ h)⟩,N1,ρ,y.1,y.2,b.nh,r.mono b.bn,f,λs H2 N2 O i2 _=>?_⟩;have hv:=oP i2 hk;subst hv;refine⟨j4 _ k,.inl ⟨_,k,_,.inl (O.nh _ _ (O.bn _ _ h)),rr,rr⟩,?_⟩;have g:=hs.mono O.bn;rcases qB k hl g with⟨v,d',e1,e2,j⟩|⟨e1,e2⟩
  .rw[e1];rw[e2]at q;exact(q.into (b.trans O)).one O.nh j
  .rw[e1];rw[e2]at q;exact(q.into (b.trans O)).one O.nh .non
 |_=>simp at M
@[simp] def Tt:D->D->OB
 |.dk ks vs,y=>(jG y).bind λk=>(br ks vs k).map λd=>(d,false)
 |_,_=>none
def RB {fo fi:FE}(hu:X.A.units+1<cLine)(ho:JE X o fo)(hi:JE X i fi)(hs:Qx i):JE X (.Subscript o i pos) (f2 Tt fo fi):=by
 refine PE.to (Me hu ho hi hs) λσ H Q q=>?_;refine cX λG K=>?_;obtain⟨B,ρ,d,bb,f,r,M,q⟩:=q;refine eX M λx ex M=>?_;refine eX M λy g M=>?_;apply K;clear K;refine⟨B,ρ,x.1,x.2,f,r,ex,λv l N1 b i1 m=>?_⟩;obtain⟨xd,n⟩:=x;cases i1 with
 |@dk a ks vs ds ob h hl c=>
  refine eX M λk hk M=>?_;refine eZ M λd0 hd M=>?_;cases M
  refine⟨N1,ρ,y.1,y.2,b.nh,r.mono b.bn,g,λp H2 N2 O i2 _=>?_⟩;have hv:=oP i2 hk;subst hv;rcases qB k hl (c.mono O.bn)with⟨v,d',e1,e2,j⟩|⟨_,e2⟩
  .rw[hd]at e2;cases e2
   exact⟨a,v,rr,.inl ⟨_,k,_,.inl (O.nh _ _ (O.bn _ _ h)),rr,e1.symm⟩,(q.into (b.trans O)).one O.nh j⟩
  simp_all
 |_=>simp at M
@[simp] def Zz:D->D->OB
 |y,.dk ks vs=>(jG y).map λk=>(.bl (br ks vs k).isSome,false)
 |_,_=>none
@[simp] def Bn:D->D->OB
 |y,.dk ks vs=>(jG y).map λk=>(.bl (!(br ks vs k).isSome),false)
 |_,_=>none
def tZ {κ:Type}[DecidableEq κ]{K:Frag}{B:Hp}{k:κ}{ks:List κ}{vs:LV}{ds:LD}(hl:ks.length=vs.length)(hs:IsL K B vs ds):(j4 (ks.zip vs) k).isSome=(br ks ds k).isSome:=by
 grind[qB]
def FR {fi fo:FE}(hu:X.A.units+1<cLine)(hi:JE X i fi)(ho:JE X o fo)(hm:behindInMarks .NotIn o=false):JT X (.Compare i [.NotIn] [o] pos) (bJ (f2 Bn fi fo)):=by
 refine PT.to (PM (Fl hu hi ho) hm) λσ H Q q=>?_;refine cX λG g=>?_;obtain⟨B,ρ,d,bb,c,r,M,q⟩:=qc q;refine eX M λy f M=>?_;refine eX M λx ex M=>?_;apply g;refine⟨B,ρ,y.1,y.2,c,r,f,λg j N1 O i2 _=>⟨N1,ρ,x.1,x.2,O.nh,r.mono O.bn,ex,λv H2 N2 b i1 l=>?_⟩⟩;obtain⟨xd,m⟩:=x;cases i1 with
 |@dk a ks vs ds ob h hl hs=>
  refine eZ M λk hk M=>?_;cases M
  have hv:=oP i2 hk;subst hv;refine⟨a,j4 _ k,rr,.inl ⟨_,k,_,.inl (b.nh _ _ h),rr,rr⟩,?_⟩;rw[tZ hl hs];exact(q.into (O.trans b)).one b.nh (.bl _)
 |_=>simp at M
end
noncomputable def dc {κ:Type}[DecidableEq κ](ks:List κ)(k:κ):List κ:=if k∈ks then ks else ks++[k]
noncomputable def cD {κ α:Type}[DecidableEq κ](ks:List κ)(xs:List α)(k:κ)(x:α):List α:=if k∈ks then List.zipWith (λk' M=>if k'=k then x else M) ks xs else xs++[x]
theorem CG {κ:Type}[DecidableEq κ](k:κ):∀ {ks:List κ}{vs:LV},ks.length=vs.length->((ks.zip vs).any λkv=>decide (kv.1=k))=decide (k∈ks)
 |[],_,_=>by simp
 |k'::ks,[],h=>by simp at h
 |k'::ks,v::vs,h=>by
  have M:=CG k (by simpa using h);simp_all<;>lia
theorem CH {κ:Type}[DecidableEq κ](k:κ)(v:V):∀(ks:List κ)(vs:LV),(ks.zip vs).map (λkv=>if kv.1=k then (kv.1,v)else kv)=ks.zip (List.zipWith (λk' M=>if k'=k then v else M) ks vs)
 |[],_=>by simp
 |_::_,[]=>by simp
 |k'::ks,w::vs=>by
  rw[zip_cons_cons,uY,CH k v ks vs,List.zipWith_cons_cons,zip_cons_cons];lia
def p8 {κ:Type}[DecidableEq κ]{ks:List κ}{vs:LV}(hl:ks.length=vs.length)(k:κ)(v:V):nM (ks.zip vs) k v=(dc ks k).zip (cD ks vs k v):=by
 unfold nM dc cD;rw[CG k hl];by_cases h:k∈ks
 .rw[if_pos (mf h),if_pos h,if_pos h,CH]
 simp_all[List.zip_append]
def mH {κ α:Type}[DecidableEq κ]{ks:List κ}{xs:List α}(hl:ks.length=xs.length)(k:κ)(x:α):(dc ks k).length=(cD ks xs k x).length:=by
 unfold dc cD;split<;>simp[hl]
theorem IsL.zipWith {κ:Type}[DecidableEq κ]{K:Frag}{B:Hp}{k:κ}{v:V}{d:D}(i:Is K B v d):∀ {ks:List κ}{vs:LV}{ds:LD},IsL K B vs ds->IsL K B (List.zipWith (λk' M=>if k'=k then v else M) ks vs) (List.zipWith (λk' M=>if k'=k then d else M) ks ds)
 |[],_,_,_=>by simpa using IsL.nil
 |_::_,_,_,.nil=>by simpa using IsL.nil
 |k'::ks,_,_,.cons h t=>by
  rw[List.zipWith_cons_cons];refine .cons ?_ (IsL.zipWith i t);split<;>simp_all
def IsL.put {κ:Type}[DecidableEq κ]{K:Frag}{B:Hp}{k:κ}{v:V}{d:D}(i:Is K B v d){ks:List κ}{vs:LV}{ds:LD}(h:IsL K B vs ds):IsL K B (cD ks vs k v) (cD ks ds k d):=by
 unfold cD;split
 .exact h.zipWith i
 .exact h.append (.cons i .nil)
section
variable {K:Frag}{E:Ends}{σ:St}{H:Hp}
noncomputable def IQ (i:Nat):FS:=λρ=>some (.nx (ρ.set i (some (.dk [] [],true))))
noncomputable def IS (i:Nat):FS:=λρ=>some (.nx (ρ.set i (some (.dt [] [],true))))
def cP.newBox (s:cP K B0 H0 N H σ ρ)(i:Nat)(hp:H p=none)(hb:∀C,Bx K C ob dd):cP K B0 H0 (upd N p ob) (upd H p ob) (σ.set i (some (.ref p))) (ρ.set i (some (dd,true))):=by
 have x:=Ext.laid (o:=ob) s.ext.nh hp;have s1:=s.grow x;have M:=s.ext.nh.free hp;have O:¬own σ ρ p:=λz=>by obtain⟨ws,⟨q,_⟩,_⟩:=s.owned z;lia
 have c:aH _ (di (upd N p ob) (λb=>own σ ρ b\/b=p)):=dj λb u e q=>⟨x.bn _ _ e,λz=>z.elim q λz=>by subst z;rw[M]at e;cases e⟩;refine s1.bindOwn au (s.ext.hh.free hp) (λj e q z=>O ⟨j,e,q,z⟩) (λj e _ q=>?_) (λj e _ q=>?_) (hb _)
 .obtain⟨w,h1,h2⟩:=s.sh j e q;exact⟨w,h1,h2.mono c⟩
 .obtain⟨a,o',h1,h2,_,h4⟩:=s.ow j e q;exact⟨a,o',h1,x.bn _ _ h2,h4.mono c⟩
def IT (q:nH K (IQ i) E σ H):EV Hu (i7 i) E σ H:=by
 refine cX λG g=>?_;obtain⟨B0,H0,ρ,r,⟨N,s⟩,e,p⟩:=q;apply g;cases e
 exact λa ob ha=>p _ _ ⟨_,s.newBox i ha λ_=>.dk (ks:=[]) rr .nil⟩
def IU (q:nH K (IS i) E σ H):EV Hv (i7 i) E σ H:=by
 refine cX λG g=>?_;obtain⟨B0,H0,ρ,r,⟨N,s⟩,e,p⟩:=q;apply g;cases e
 exact λa ha=>p _ _ ⟨_,s.newBox i ha λ_=>.dt (ks:=[]) rr .nil⟩
def yO (i:Nat)(O a:FE):FS:=λρ=>match ρ[i]? with
 |some (some (.dk ks vs,true))=>(a ρ).bind λv=>(O ρ).bind λk=>(jG k.1).bind λM=>if aR v.1=true/\ks.length<sizeLine then some (.nx (ρ.set i (some (.dk (dc ks M) (cD ks vs M v.1),true))))else none
 |_=>none
def IV {i:Nat}{M O:FE}(q:nH K (yO i M O) E σ H):Ch (GY i) (tD K M) (tD K O) E σ H:=by
 refine cX λG g=>?_;obtain⟨B0,H0,ρ,r,⟨N,s⟩,e,p⟩:=q;apply g;clear g;unfold yO at e;split at e
 .rename_i ks ds ei;refine eX e λv ev e=>?_;refine eX e λk ek e=>?_;refine eX e λc hk e=>?_;split at e
  .rename_i hx;cases e
   refine⟨N,ρ,v.1,v.2,s.ext.nh,s.rep,ev,λg h N1 d i1 _=>?_⟩;have s1:=s.grow d;obtain⟨a,o,h1,h2,h3,h4⟩:=s1.ow i _ ei;refine⟨.ref a,h1,N1,ρ,k.1,k.2,s1.ext.nh,s1.rep,ek,λj H2 N2 b i2 _=>?_⟩;have s2:=s1.grow b;have hv:=oP i2 hk;subst hv;obtain⟨l,o',k1,k2,k3,k4⟩:=s2.ow i _ ei;rw[h1]at k1;cases k1
   cases k4 with
   |@dk ks vs ds hl h5 ob=>
    refine⟨a,rr,.inl ⟨_,c,_,s2.ext.nh _ _ k2,rr,?_,λf=>?_⟩⟩
    .rw[length_zip];lia
    .rw[p8 hl];exact p σ _ ⟨_,s2.writeB ei h1 (.dk (mH hl _ _) (h5.put (s2.flat (i1.mono b.bn) hx.1)))⟩
  .cases e
 simp_all
end
section
variable {X:Cx}{pos:Pos}{e k:Expr}
def MX (M:X.N.Nodup)(hi:X.N[i]? = some x)(hx:Lm X.env.scope x)(hs:swapsWith (.Dict [] [] dp) (some (.Name x p)) pos.line X.env=pure false)
  (hf:X.fn x=true\/X.env.scope.names.lookup x=some .local):JS X (.Assign [.Name x p] (.Dict [] [] dp) pos) (IQ i):=PS.to (vn M hi hx Hw hs hf) λ_ _ _ q=>IT q
def MY (M:X.N.Nodup)(hi:X.N[i]? = some x)(hx:Lm X.env.scope x)(hs:swapsWith (.Dict [] [] dp) (some (.Name x p)) pos.line X.env=pure false)
  (hf:X.fn x=true\/X.env.scope.names.lookup x=some .local):JS X (.Assign [.Name x p] (.Dict [] [] dp) pos) (IS i):=PS.to (vn M hi hx Hx hs hf) λ_ _ _ q=>IU q
def MZ (hu:X.A.units+1<cLine)(hv:JE X e fv)(hk:JE X k fk)(a:X.N[i]? = some y)(M:Ll X.env.scope y)(hd:(y == ("__debug__" : Str))=false)
  (O:(y == ("__classdict__" : Str))=false) (hs:swapsWith e (some (.Subscript (.Name y py) k pt)) pos.line X.env=pure false):JS X (.Assign [.Subscript (.Name y py) k pt] e pos) (yO i fk fv):=
 PS.to (v0 hu (jz a M hd O) hk hv hs) λ_ _ _ q=>IV q
end
section
variable {prog:Program}{w:World}{A:Around}{E:QV}{s:Shared}
abbrev oi (h:Heap)(z TI TO M:Addr)(f:Bool):Prop:=h.get? z=some { cls:=.type "zip",dict:=none,data:=.fields #[rawInt M,.bool f,.bool false,.ref TI,.ref TO],slots:=#[] }
def IW (e:s.heap.get? a=some o)(h:Q (some o) s):wpAny (model prog w) A (loadIfAlive a) Q E s:=by
 intro O p M;simp_all[loadIfAlive]
def ua {z TI TO M:Addr}{f:Bool}{a:Obj}{Q:Bool->Shared->Prop}(hz:oi s.heap z TI TO M f)(b:s.heap.get? M=some a)
  (q:∀h',oi h' z TI TO M true->Heap.SameBut z s.heap h'->Q false { s with heap:=h' }):wpAny (model prog w) A (Builtin.SmallTypes.ownedTupleIsFree (.ref z)) Q E s:=by
 refine wX (wpAny_field hz rr rr ?_);show wpAny _ _ (loadIfAlive _>>=_) _ _ _;refine wX (IW b ?_);refine wX (wpAny_field hz rr rr ?_);cases f with
 |true=>
  exact wY (q _ hz (.refl _ _))
 |false=>
  refine wX (wpAny_setField_rec hz X9 λh' O s'=>wY (q h' O s'))
end
section
variable {prog:Program}{w:World}{A:Around}{E:QV}{s:Shared}
def FU {k1 k2:Bool}{z TI TO b i1 i2 l1 l2:Addr}{f:Bool}{n:Obj}{j:Nat}{xs ys:AV}{x y:Value}{Q:QV}(D:ZApart z TI TO i1 i2)(m1:l1≠z/\l1≠TO/\l1≠i1)(m2:l2≠z/\l2≠TO/\l2≠i1/\l2≠i2)
  (hz:oi s.heap z TI TO b f) (p:s.heap.get? b=some n) (r:IsPair s.heap TI (.ref i1) (.ref i2)) (t:kB k1 s.heap i1 l1 j) (u:kB k2 s.heap i2 l2 j) (B:kE k1 s.heap l1 xs) (q2:kE k2 s.heap l2 ys) (hx:xs[j]? = some x) (hy:ys[j]? = some y)
  (q:∀h',oi h' z TI TO b true->kB k1 h' i1 l1 (j+1)->kB k2 h' i2 l2 (j+1)->IsPair h' s.z x y ->
   (∀c o,c≠z->c≠i1->c≠i2->s.heap.get? c=some o->h'.get? c=some o)->Q (.ref s.z) { s with heap:=h' }):
  wpAny (model prog w) A (Builtin.«zip.__next__» ⟨[.ref z],[]⟩) (λdJ s'=>∃v,dJ=.done (.ret v)/\Q v s') E s:=by
 show wpAny _ _ (field (.ref z) 2>>=_) _ _ s;refine wX (wpAny_field hz rr (x:=.bool false) rr ?_);refine wX (wpAny_field hz rr (x:=.ref TI) rr (wX (wpAny_seqItems r rr ?_)));refine wX (ua hz p λg1 d s1=>?_);simp only[uV,if_false];refine wX ?_;refine wX (wX (wpAny_holding ?_));refine wX (eF (s:={ s with heap:=g1 }) (t.upon λo e=>s1.extBut _ _ D.az e) (B.upon λo e=>s1.extBut _ _ m1.1 e) hx λm g s2=>wY ?_);refine wY (wX (wX (wpAny_holding ?_)));have M:∀ {c o},c≠z->c≠i1->s.heap.get? c=some o->m.get? c=some o:=λO c3 e=>s2.extBut _ _ c3 (s1.extBut _ _ O e);refine wX (eF (s:={ s with heap:=m }) (u.upon λo e=>M D.bz D.ab.symm e) (q2.upon λo e=>M m2.1 m2.2.2.1 e) hy λh i a=>wY ?_);refine wY (wY ?_);refine wX (wpAny_newTuple (hsz:=(by decide:2<=sizeLine)) ?_);have sz:h.objs.size=s.z:=by rw[a.1,s2.1,s1.1]
 have k:∀c o,c≠z->c≠i1->c≠i2->s.heap.get? c=some o->h.get? c=some o:=λc o O c3 l e=>a.extBut _ _ l (M O c3 e);refine wY ⟨_,rr,?_⟩;have hp:IsPair _ h.objs.size x y:=vY _ rr;rw[sz]at hp |-;exact q _ (vZ _ (a.extBut _ _ D.bz.symm (s2.extBut _ _ D.az.symm d))) (g.upon λo e=>vZ _ (a.extBut _ _ D.ab e)) (i.upon λo e=>vZ _ e) hp λc o O c3 l e=>vZ _ (k c o O c3 l e)
def IX {k1 k2:Bool}{z TI TO b i1 i2 l1 l2:Addr}{f:Bool}{i:Obj}{j:Nat}{xs ys:AV}{Q:PySem.Fin->Shared->Prop}(d:A.handled=none)(D:ZApart z TI TO i1 i2)(m1:l1≠z/\l1≠TO/\l1≠i1)(m2:l2≠z/\l2≠TO/\l2≠i1/\l2≠i2)
  (hz:oi s.heap z TI TO b f) (k:s.heap.get? b=some i) (l:IsPair s.heap TI (.ref i1) (.ref i2)) (g:kB k1 s.heap i1 l1 j) (m:kB k2 s.heap i2 l2 j) (h:kE k1 s.heap l1 xs) (q2:kE k2 s.heap l2 ys) (he:xs[j]? = none\/ys[j]? = none)
  (q:∀h' x,(∀c o,c≠z->c≠i1->c≠i2->s.heap.get? c=some o->h'.get? c=some o)->(∃o,h'.get? x=some o/\o.cls=.type "StopIteration")->E (.ref x) { s with heap:=h' }):
  wpAny (model prog w) A (Builtin.«zip.__next__» ⟨[.ref z],[]⟩) Q E s:=by
 show wpAny _ _ (field (.ref z) 2>>=_) _ _ s;refine wX (wpAny_field hz rr (x:=.bool false) rr ?_);refine wX (wpAny_field hz rr (x:=.ref TI) rr (wX (wpAny_seqItems l rr ?_)));refine wX (ua hz k λg1 n s1=>?_);refine wX ?_;refine wX (wX (wpAny_holding ?_));cases hx:xs[j]? with
 |none=>
  exact wX (iG (s:={ s with heap:=g1 }) d (g.upon λo e=>s1.extBut _ _ D.az e) (h.upon λo e=>s1.extBut _ _ m1.1 e) hx λa x s2 hX=>q a x (λc o O c3 _ e=>s2 _ _ c3 (s1.extBut _ _ O e)) hX)
 |some v=>
  have hy:ys[j]? = none:=by
   lia
  refine wX (eF (s:={ s with heap:=g1 }) (g.upon λo e=>s1.extBut _ _ D.az e) (h.upon λo e=>s1.extBut _ _ m1.1 e) hx λa p s2=>wY ?_);refine wY (wX (wX (wpAny_holding ?_)));have M:∀ {c o},c≠z->c≠i1->s.heap.get? c=some o->a.get? c=some o:=λO c3 e=>s2.extBut _ _ c3 (s1.extBut _ _ O e);exact wX (iG (s:={ s with heap:=a }) d (m.upon λo e=>M D.bz D.ab.symm e) (q2.upon λo e=>M m2.1 m2.2.2.1 e) hy λr x t hX=>q r x (λc o O c3 u e=>t _ _ u (M O c3 e)) hX)
end
structure ZA (k1 k2:Bool)(z TI TO i1 i2 l1 l2:Addr):Prop where
 D:ZApart z TI TO i1 i2
 m1:l1≠z/\l1≠TO/\l1≠i1
 m2:l2≠z/\l2≠TO/\l2≠i1/\l2≠i2
def IY (k1 k2:Bool)(z TI TO i1 i2 l1 l2 S:Addr)(i:Nat)(h:Heap):Prop:=
 IsPair h TI (.ref i1) (.ref i2)/\kB k1 h i1 l1 i/\kB k2 h i2 l2 i/\((IsZip h z TI TO .none/\∃a b,IsPair h TO a b)\/∃M f O c,oi h z TI TO M f/\h.get? M=some O/\M∉[z,TI,TO,i1,i2]/\M≠S/\h.get? TO=some c)
def IY.keep {k1 k2:Bool}{z TI TO i1 i2 l1 l2 S:Addr}{i:Nat}{h h':Heap}(st:IY k1 k2 z TI TO i1 i2 l1 l2 S i h)(hS:S∉[z,TI,TO,i1,i2])(k:∀b o,b≠S->h.get? b=some o->h'.get? b=some o):IY k1 k2 z TI TO i1 i2 l1 l2 S i h':=by
 obtain⟨M,O,c,d⟩:=st;have n:∀ {b},b∈[z,TI,TO,i1,i2]->b≠S:=λhb e=>hS (e ▸ hb);refine⟨k _ _ (n X9) M,O.upon λo e=>k _ o (n X9) e,c.upon λo e=>k _ o (n X9) e,?_⟩;rcases d with⟨b1,a,b,b2⟩|⟨g,f,j,l,b1,b2,b3,b4,m⟩
 .exact .inl ⟨k _ _ (n X9) b1,a,b,k _ _ (n X9) b2⟩
 .exact .inr ⟨g,f,j,l,k _ _ (n X9) b1,k _ _ b4 b2,b3,b4,k _ _ (n X9) m⟩
section
variable {prog:Program}{w:World}{A:Around}{E:QV}{s:Shared}{k1 k2:Bool}{z TI TO i1 i2 l1 l2 S:Addr}{j:Nat}{xs ys:AV}
def IY.ty (st:IY k1 k2 z TI TO i1 i2 l1 l2 S j h):∃o,h.get? z=some o/\o.cls=.type "zip":=by
 obtain⟨_,_,_,M⟩:=st;rcases M with⟨b1,_⟩|⟨O,f,a,b,b1,_⟩
 .exact⟨_,b1,rr⟩
 .exact⟨_,b1,rr⟩
def IZ (Z:ZA k1 k2 z TI TO i1 i2 l1 l2)(hS:S<s.z)(st:IY k1 k2 z TI TO i1 i2 l1 l2 S j s.heap)(k:kE k1 s.heap l1 xs)(q2:kE k2 s.heap l2 ys)(hx:xs[j]? = some x)(hy:ys[j]? = some y)
  (q:∀h',IY k1 k2 z TI TO i1 i2 l1 l2 S (j+1) h'->IsPair h' s.z x y->(∀c o,c∉[z,TI,TO,i1,i2]->s.heap.get? c=some o->h'.get? c=some o)->Q (some (.ref s.z)) { s with heap:=h' }):
  wpAny (model prog w) A (pyNext (.ref z)) Q E s:=by
 have M:=st.ty;obtain⟨O,g,h,l⟩:=st;have lt:∀ {c o},s.heap.get? c=some o->s.z≠c:=λe=>ne_of_gt (vX e);obtain⟨t,e1,_⟩:=g.ob;obtain⟨u,e2,_⟩:=h.ob;rcases l with⟨hz,a,b,i⟩|⟨m,f,n,p,hz,h0,n0,r,i⟩
 .refine wX (wpAny_attempt (wpAny_callSpecial?_slot M slot_zip_next (wpAny_call_entry slot_zip_next M entry_zip_next (yu Z.D Z.m1 Z.m2 hz O i g h k q2 hx hy λh' b1 b2 b3 b4 d v bk=>wY ?_) (args_zip_next_1 _))));refine q h' ⟨bk _ _ Z.D.tz Z.D.to Z.D.ta Z.D.tb O,b3,b4,.inr ⟨_,false,_,_,b1,d,?_,ne_of_gt hS,b2⟩⟩ d λc o hc e=>bk c o (λz=>hc (by simp[z])) (λz=>hc (by simp[z])) (λz=>hc (by simp[z])) (λz=>hc (by simp[z])) e;simp_all
 .refine wX (wpAny_attempt (wpAny_callSpecial?_slot M slot_zip_next (wpAny_call_entry slot_zip_next M entry_zip_next (FU Z.D Z.m1 Z.m2 hz h0 O g h k q2 hx hy λh' b1 b3 b4 d bk=>wY ?_) (args_zip_next_1 _))));exact q h' ⟨bk _ _ Z.D.tz Z.D.ta Z.D.tb O,b3,b4,.inr ⟨m,true,n,p,b1,bk _ _ (λz=>n0 (by simp[z])) (λz=>n0 (by simp[z])) (λz=>n0 (by simp[z])) h0,n0,r,bk _ _ Z.D.oz Z.D.oa Z.D.ob i⟩⟩ d λc o hc e=>bk c o (λz=>hc (by simp[z])) (λz=>hc (by simp[z])) (λz=>hc (by simp[z])) e
def Ja (d:A.handled=none)(Z:ZA k1 k2 z TI TO i1 i2 l1 l2)(st:IY k1 k2 z TI TO i1 i2 l1 l2 S j s.heap)(g:kE k1 s.heap l1 xs)(q2:kE k2 s.heap l2 ys)(he:xs[j]? = none\/ys[j]? = none)
  (q:∀h',(∀c o,c∉[z,TI,TO,i1,i2]->s.heap.get? c=some o->h'.get? c=some o)->Q none { s with heap:=h' }):wpAny (model prog w) A (pyNext (.ref z)) Q E s:=by
 have M:=st.ty;obtain⟨h,i,k,m⟩:=st;unfold pyNext;rcases m with⟨hz,a,b,l⟩|⟨n,f,p,r,hz,h0,n0,t,l⟩
 .refine wX (wpAny_attempt (wpAny_callSpecial?_slot M slot_zip_next (wpAny_call_entry slot_zip_next M entry_zip_next (Cy d Z.D Z.m1 Z.m2 hz h l i k g q2 he λh' x hk hX=>?_) (args_zip_next_1 _))));obtain⟨o,O,co⟩:=hX;exact wX (wpAny_isInstance (b:=true) ⟨o,O,co⟩ isSubtype_stop (wY (q h' λc o hc e=>hk c o (λz=>hc (by simp[z])) (λz=>hc (by simp[z])) (λz=>hc (by simp[z])) (λz=>hc (by simp[z])) e)))
 .refine wX (wpAny_attempt (wpAny_callSpecial?_slot M slot_zip_next (wpAny_call_entry slot_zip_next M entry_zip_next (IX d Z.D Z.m1 Z.m2 hz h0 h i k g q2 he λh' x hk hX=>?_) (args_zip_next_1 _))));obtain⟨o,O,co⟩:=hX;exact wX (wpAny_isInstance (b:=true) ⟨o,O,co⟩ isSubtype_stop (wY (q h' λc o hc e=>hk c o (λz=>hc (by simp[z])) (λz=>hc (by simp[z])) (λz=>hc (by simp[z])) e)))
end
def Jb (h:a≠b):upd (upd H a o) b u=upd (upd H b u) a o:=by
 funext c;unfold upd;lia
def jH (h:H a=none):aH H (upd H a o):=λb u e=>by rw[a6 (aN e h)];exact e
def FV (h:(gL ds es)[i]? = some d):(gL ds es).take (i+1)=(gL ds es).take i++[d]:=by
 rw[take_add_one,h];rfl
def Bo:typeLookup (.type "zip") "__len__" = pure none:=O9
def yP:typeLookup (.type "zip") "__length_hint__" = pure none:=O9
section
variable {X:Cx}{af:AO}{σ:St}{B H0:Hp}{A:Around}{R:Result->Shared->Prop}{k1 k2:Bool}{z TI TO i1 i2 l1 l2 S:Addr}{us ws:LV}{ds es:LD}
def FW (Q:A.handled=none)(Z:ZA k1 k2 z TI TO i1 i2 l1 l2)(hS:S∉[z,TI,TO,i1,i2])(h1:l8 k1 X.K B l1 us)(t:IsL X.K B us ds)(h2:l8 k2 X.K B l2 ws)(C:IsL X.K B ws es)
  (hR:∀M N vs s',Inv X af σ (upd M S (.lst vs)) s'->M S=none->Ext B N H0 M->IsL X.K N vs (gL ds es)->R (.ok (.ret .none)) s'):
  ∀(k i:Nat)(s:Shared)(M N:Hp)(vs:LV),(gL ds es).length - i=k->i<=(gL ds es).length->Inv X af σ (upd M S (.lst vs)) s->M S=none->Ext B N H0 M->(∀b∈[z,TI,TO,i1,i2],lw X af (upd M S (.lst vs)) b) ->
   IY k1 k2 z TI TO i1 i2 l1 l2 S i s.heap->IsL X.K N vs ((gL ds es).take i) ->
   codeAny (model X.prog X.w) A (.builtin "list.extend.loop" ⟨[.ref S,.ref z,.none],[]⟩) R s:=by
 have n1:=t.length;have n2:=C.length;have nz:(gL ds es).length=min ds.length es.length:=by simp_all[gL]
 intro k;induction k with
 |zero=>
  intro i s M N vs hk hi I hc O fp st j;have GW:i=(gL ds es).length:=N9
  have a:aH B (upd M S (.lst vs)):=(O.bn.trans O.nh).trans (jH hc);obtain⟨its,r1,l,D⟩:=(h1.same a).vals I;obtain⟨T,m,p2,U⟩:=(h2.same a).vals I;have e1:=r1.length;have e2:=m.length;refine codeAny_builtin PySem.F.entry_extend_loop ?_;rw[Around.under_plainId plain_extend_loop _];show wpAny _ A.in1 (pyNext (.ref z)>>=_) _ _ s;refine wX (Ja (A:=A.in1) Q Z st l p2 ?_ λh' h=>?_)
  .by_cases q:ds.length<=es.length
   .left;simp;lia
   .right;simp;lia
  .refine wY (hR M N vs _ (kF (t':=s.toks) I fp h) hc O ?_);grind
 |succ k W=>
  intro i s M N vs hk hi I hc O fp st j;have Y:i<(gL ds es).length:=N9
  have a:aH B (upd M S (.lst vs)):=(O.bn.trans O.nh).trans (jH hc);obtain⟨its,r1,l,D⟩:=(h1.same a).vals I;obtain⟨T,m,p2,U⟩:=(h2.same a).vals I;have d1:i<ds.length:=N9
  have d2:i<es.length:=N9
  obtain⟨x,hx,ix⟩:=t.get (vU d1);obtain⟨y,hy,iy⟩:=C.get (vU d2);obtain⟨u,hu,ru⟩:=r1.get hx;obtain⟨v,hv,rv⟩:=m.get hy;have el:(gL ds es)[i]? = some (.tup [ds[i],es[i]]):=by
   simp_all[gL]
  obtain⟨zl,BU,c,n,ev0,E⟩:=I.lstM au;have G:S<s.z:=vX E;refine codeAny_builtin PySem.F.entry_extend_loop ?_;show wpAny _ A.in1 (pyNext (.ref z)>>=_) _ _ s;refine wX (IZ (A:=A.in1) Z G st l p2 (by simpa using hu) (by simpa using hv) λh' Ly hp h=>?_);have H:upd M S (.lst vs) s.z=none:=I.hok.fresh (vT _);have p:s.z≠S:=ne_of_gt G;have d:M s.z=none:=by rw[a6 p]at H;exact H
  have new:bj X.prog X.w (upd (upd M S (.lst vs)) s.z (.tup [x,y])) h' s.z (.tup [x,y]):=⟨by show 2<=sizeLine;decide,[u,v],.cons ru (.cons rv .nil),⟨_,hp,rr,_,rr⟩⟩;have J:=Cz (s:=s) (t':=s.toks) I fp h (vT _) new;rw[Jb p.symm]at J;have g:=h S _ hS E;have r:Ext B (upd N s.z (.tup [x,y])) H0 (upd M s.z (.tup [x,y])):=O.trans (Ext.laid O.nh d);have vl:vs.length=i:=by rw[j.length,length_take];lia
  have zs:=zl;refine wX ?_;have lz:(vs++[V.ref s.z]).length<=sizeLine:=by
   rw[uZ,vl];have a1:=D;show i+1<=sizeLine;lia
  have L:=J.lset (t':=s.toks) (ys:=vs++[.ref s.z]) (its':=BU++[.ref s.z]) (f:=(·.push (Value.ref s.z))) au g X9 (n.append (.cons (show aD (.ref _) (.ref _)from rr) .nil)) lz;rw[ml]at L;refine wpAny_updateSeq g rr (wY ⟨plainId_quiet plain_extend_loop _,W (i+1) _ _ _ (vs++[.ref s.z]) N9 Y L (by rw[a6 p.symm];exact hc) r (λb hb=>?_) (Ly.keep hS λb o hb e=>(Heap.get?_update_other _ _ (Ne.symm hb)).trans e) ?_⟩) I9 I9
  .obtain⟨P,f1,f2,f3,f4,f5⟩:=fp b hb;refine⟨?_,f1,f2,f3,f4,f5⟩;have nb:b≠S:=λe=>hS (e ▸ hb);rw[a6 nb]at P |-;have nT:b≠s.z:=by
    obtain⟨hI,t1,t2,a4⟩:=st;obtain⟨o1,e1,_⟩:=t1.ob;obtain⟨o2,e2,_⟩:=t2.ob;have lt:∀ {c o},s.heap.get? c=some o->c≠s.z:=λe=>vS (vX e);grind
   rw[a6 nT];exact P
  .rw[FV el];exact(j.mono (Ext.laid O.nh d).bn).append (.cons (.tup (gN.of au) (.cons (ix.mono r.bn) (.cons (iy.mono r.bn) .nil))) .nil)
end
section
variable {X:Cx}{af:AO}{σ:St}{B H:Hp}{s:Shared}{k1 k2:Bool}{z TI TO i1 i2 l1 l2:Addr}{us ws:LV}{ds es:LD}
def sQ (D:X.A.handled=none)(I:Inv X af σ H s)(Z:ZA k1 k2 z TI TO i1 i2 l1 l2)(fp:∀b∈[z,TI,TO,i1,i2],lw X af H b)
  (E:IsPair s.heap TI (.ref i1) (.ref i2)) (t:kB k1 s.heap i1 l1 0) (u:kB k2 s.heap i2 l2 0) (hz:IsZip s.heap z TI TO .none) (G:IsPair s.heap TO a b)
  (J:aH B H) (h1:l8 k1 X.K B l1 us) (L:IsL X.K B us ds) (h2:l8 k2 X.K B l2 ws) (P:IsL X.K B ws es)
  (q:∀(S:Addr)(g N:Hp)(vs:LV),g S=none->Ext B N H g->IsL X.K N vs (gL ds es)->Q (.ref S) (upd g S (.lst vs))):
  wq X (call (.type "list") [.ref z]) (EP X af σ Q) X.xe s:=by
 have lt:∀ {c o},s.heap.get? c=some o->s.z≠c:=λe=>ne_of_gt (vX e);have M:s.z∉[z,TI,TO,i1,i2]:=by
  obtain⟨o1,e1,_⟩:=t.ob;obtain⟨o2,e2,_⟩:=u.ob;simp_all
 have v:s.z≠z:=lt hz;have k:IY k1 k2 z TI TO i1 i2 l1 l2 s.z 0 s.heap:=⟨E,t,u,.inl ⟨hz,a,b,G⟩⟩;have hc:H s.z=none:=I.fresh;refine callType_codes (Q₁:=λobj d=>obj=.ref s.z/\d={ s with heap:=s.heap.push { cls:=.type "list",data:=.seq #[] } }) called_list (PySem.F.typeCall_list_1 _) PySem.F.entry_list_init
  (code_list_new _ ⟨rr,rr⟩) λobj d h=>?_
 obtain⟨rfl,rfl⟩:=h;have hS:(s.heap.push { cls:=.type "list",data:=.seq #[] }).get? s.z=some _:=vY _ rr;have R:=I.lnew (t':=s.toks) (its:=[]) .nil (uN _);have l:IY k1 k2 z TI TO i1 i2 l1 l2 s.z 0 (s.heap.push { cls:=.type "list",data:=.seq #[] }):=k.keep M λb o _ e=>vZ _ e;refine⟨⟨_,hS,rr⟩,PySem.F.args_list_init_2 _ _,?_⟩;refine wX ?_;unfold Builtin.List.listItems;refine wX (wpAny_seqItems hS rr (wY ?_));refine wX (wpAny_updateSeq hS rr ?_);have i:=R.lset (t':=s.toks) (ys:=[]) (its':=[]) (f:=λ_=>#[]) au hS rr .nil (uN _);have O:=l.keep (h':=(s.heap.push { cls:=.type "list",data:=.seq #[] }).update s.z (Obj.mapSeq λ_=>(#[]:AV))) M λb o hb e=>(Heap.get?_update_other _ _ (Ne.symm hb)).trans e;rw[ml]at i;generalize m:(s.heap.push { cls:=.type "list",data:=.seq #[] }).update s.z (Obj.mapSeq λ_=>(#[]:AV))=g2 at i O |-;obtain⟨_,U,c2,V,_,w⟩:=i.lstM au;have e2:=V.zero;subst e2;refine wX (wpAny_letGo ?_);unfold Builtin.List.listExtendWith;refine wX (wpAny_typeOf (T:="zip") O.ty ?_);have n:Builtin.List.listSameRef (.ref s.z) (.ref z)=false:=by simp[Builtin.List.listSameRef,v]
 have W:(Value.type "zip" == Value.type "list")=false:=H9
 have Y:(Value.type "zip" == Value.type "tuple")=false:=H9
 simp only[n,W,Y,Bool.or_false,uV,if_false];have p:IsZip g2 z TI TO .none:=by
  rw[<-m];exact(Heap.get?_update_other _ _ v).trans (vZ _ hz)
 refine wX (wpAny_pyIter_zip p ?_);refine wX (wpAny_holding ?_);unfold Builtin.List.listLengthHint;refine wX (wpAny_specialOf (T:="zip") O.ty Bo ?_);refine wX (wpAny_specialOf (T:="zip") O.ty yP ?_);refine wY ?_;refine wX (wpAny_rule ?_);refine wX ?_;refine wX (wpAny_updateSeq w rr ?_);have j:=i.lset (t':=s.toks) (ys:=[.non]) (its':=[.none]) (f:=(·.push .none)) au w rr (.cons (show aD .non .none from rr) .nil) (by show 1<=sizeLine;decide);have x:=O.keep (h':=g2.update s.z (Obj.mapSeq (·.push .none))) M λb o hb e=>(Heap.get?_update_other _ _ (Ne.symm hb)).trans e;rw[ml]at j;generalize hg3:g2.update s.z (Obj.mapSeq (·.push .none))=g3 at j x |-;obtain⟨_,ae9,c3,v3,_,y⟩:=j.lstM au;obtain⟨n3,rfl,r3⟩:=v3.one;cases r3
 refine wpAny_updateSeq (hz:=by simp<;>decide) y rr ?_
 have C:=j.lset (t':=s.toks) (ys:=[]) (its':=[]) (f:=(·.pop)) au y rr .nil (uN _);have r:=x.keep (h':=g3.update s.z (Obj.mapSeq (·.pop))) M λb o hb e=>(Heap.get?_update_other _ _ (Ne.symm hb)).trans e;rw[ml]at C;refine wY ⟨plainId_quiet plain_extend_loop _,FW (A:=X.A.in1) (B:=B) (H0:=H) D Z M h1 L h2 P (λg N vs s' I' KW xt il=>?_) _ 0 _ H B [] rr (uN _) C hc (Ext.refl J) (λb hb=>?_) r .nil⟩
 .exact⟨rr,.ref s.z,_,I',rr,q _ g N vs KW xt il⟩
 .obtain⟨f0,f1⟩:=fp b hb;refine⟨?_,f1⟩;grind[a6]
end
@[simp] def fLZ (fa M:FE):FE:=λρ=>(F3 fa M ρ).map λds=>(.lst ds,true)
section
variable {X:Cx}{a b:Expr}{pos p pos2 p2:Pos}
def Bp (E:X.calm=true)(hl:X.mg "list" = none)(hm:X.mg "zip" = none)(ha:JE X a fa)(hb:JE X b fb)(m:Gl X "list")(F:Gl X "zip")
  (hs:starEach [a,b] X.env=[(false,eval a X.env),(false,eval b X.env)]) (O:starEach [b] X.env=[(false,eval b X.env)])
  (x:starEach [.Call (.Name "zip" p2) [a,b] [] pos2] X.env=[(false,eval (.Call (.Name "zip" p2) [a,b] [] pos2) X.env)]):
  JE X (.Call (.Name "list" p) [.Call (.Name "zip" p2) [a,b] [] pos2] [] pos) (fLZ fa fb):=by
 intro af s σ H Q I q;obtain⟨B,ρ,d,bb,G,r,M,dJ⟩:=q;refine eZ M λzs g e2=>?_;cases e2
 clear M;have M:=g;clear g;refine eX M λy ex M=>?_;refine eX M λz J M=>?_;refine eX M λxs L M=>?_;refine eZ M λys t M=>?_;subst M;refine wpAny_Call_Name_kw (eE I m hl wn ?_ H9 H9);refine PyProof.Rows.callWith_type1 ?_ (by rw[x];rfl) rr;rw[x];refine Calls.spliced_cons ?_;refine wpAny_Call_Name_kw (eE I F hm OQ ?_ H9 H9);refine PyProof.Rows.callWith_type1 (bD (eV ha (eV hb l5 O) (by rw[hs,O]) pos2 af s σ H (λvs i=>∃N1,Ext B N1 H i/\IsL X.K N1 vs [y.1,z.1]) I ⟨B,ρ,[y.1,z.1],G,r,by simp[ak,ay,ex,J],λvs i N1 c i1=>⟨N1,c,i1⟩⟩) λus s1 ⟨vs,i,f,r1,N1,c,P⟩=>?_) (by rw[hs,O]) (by rw[O];rfl);cases P with
 |cons R u=>
  cases u with
  |cons u T=>
   cases T
   obtain⟨k1,l1,U,rfl,h1,m1⟩:=yv R L;obtain⟨k2,l2,V,rfl,h2,m2⟩:=yv u t;obtain⟨u1,u2,rfl,W,v⟩:=r1.two;cases W
   cases v
   obtain⟨its,v1,A,z1⟩:=(h1.same c.nh).vals f;obtain⟨EO,v2,p2,z2⟩:=(h2.same c.nh).vals f;have GS:=A.lt;have j:=p2.lt;refine Cw A p2 λh' Y c2 c3 Z c5 ck=>?_;have D:ZApart (s1.z+4) (s1.z+2) (s1.z+3) s1.z (s1.z+1):=by
    constructor<;>(simp)
   have e:∀ {l:Addr}(n:Nat),l<s1.z->l≠s1.z+n:=λn hl=>vS (vQ hl (Nat.le_add_right _ n));refine Calls.spliced_nil ?_;refine sQ (k1:=k1) (k2:=k2) (B:=N1) (H:=i) (f.ok.hd E) (f.kept (t':=s1.toks) ck) ⟨D,⟨e 4 GS,e 3 GS,e 0 GS⟩,⟨e 4 j,e 3 j,e 0 j,e 1 j⟩⟩ (λb hb=>?_) c2 Z c5 Y c3 c.nh h1 m1 h2 m2 λS Hc N vs hS k w=>?_
   .have C:s1.z<=b:=by
     grind
    exact f.fpOk C (f.hok.fresh C)
   .have x3:=(c.trans k).trans (Ext.laid (o:=.lst vs) k.nh hS);have h:=w.mono (Ext.laid (o:=.lst vs) k.nh hS).bn;exact dJ _ _ _ x3 (.lst (fF.of au) h) λ_=>⟨_,_,_,rr,rr,(c.trans k).hh.free hS,au,h⟩
end
end DL
namespace DL
open PySem PySem.Spec PyProof.Rows
def wI:typeLookup (.type "list") "keys" = pure none:=O9
def FX
  (hx:s.heap.get? a=some { cls:=.type "list",dict:=none,data:=.seq xs k,slots:=sl }) (c:A.handled=none)
  (h:∀h' tk,(∀b o,s.heap.get? b=some o->h'.get? b=some o)->Q none { s with heap:=h',toks:=tk }):
  wpAny (model prog w) A (getAttr? (.ref a) "keys") Q E s:=by
 obtain⟨hp,g,d,tk,os⟩:=s;have O:∀M,(⟨hp,g,d,M,os⟩:Shared).TypeIs (.ref a) "list":=λ_=>⟨_,hx,rr⟩;have f1:=sub_AttributeError;have f:=slot_list_getattribute.lookup;have i:=slot_list_getattribute.bind (.ref a);have j:=am_list_getattr_none;unfold getAttr? getAttrBy? getAttrBy;repeat (any_goals (first|assumption|exact O _|((with_reducible show wpAny _ _ (call (Value.builtin "list.__getattribute__") _ _) _ _ _);refine call_meets slot_list_getattribute (O _) am_entry_list_getattribute (PySem.F.args_list_getattribute_2 _ _) (meets_getattribute_miss_list a xs k sl "keys" _ wI H9 H9) ⟨hx,c,λh' M e hx'=>?_⟩)|wp_step))
 obtain⟨t',u',he⟩:=hx'.there;show wpAny _ _ (getattributeRaised _ _ _ _ _ _ _) _ _ _;unfold getattributeRaised;repeat (any_goals (first|assumption|wp_step))
 exact h _ _ hx'.of.keeps
end DL
namespace DL
open PySem PySem.Spec PyProof.Rows L2
def fZ:LD->Option (List (dh×D))
 |[]=>some []
 |.tup [k,v]::r=>(jG k).bind λM=>(fZ r).map λl=>(M,v)::l
 |_=>none
noncomputable def qC (a:LK×LD)(p:dh×D):LK×LD:=(dc a.1 p.1,cD a.1 a.2 p.1 p.2)
noncomputable def bE (l:List (dh×D)):LK×LD:=l.foldl qC ([],[])
def qD (l:List (dh×D))(p:dh×D):bE (l++[p])=qC (bE l) p:=by simp_all[bE]
def xy1 {d:D}{r:LD}{l:List (dh×D)}(h:fZ (d::r)=some l):∃k v,d=.tup [k,v]:=by
 cases d with
 |tup ds=>rcases ds with _|⟨a,_|⟨b,_|⟨c,ds⟩⟩⟩<;>first|exact⟨_,_,rfl⟩|cases h
 |_=>cases h
theorem qE:∀ {ds:LD}{l:List (dh×D)},fZ ds=some l->l.length=ds.length
 |[],l,h=>by cases h;rfl
 |d::r,l,h=>by
  obtain⟨k,v,rfl⟩:=xy1 h;refine eX h λO _ h=>?_;obtain⟨a,h1,rfl⟩:=oY h;simp[qE h1]
theorem qF:∀ {ds:LD}{l:List (dh×D)}{i:Nat}{d:D},fZ ds=some l->ds[i]? = some d->∃k v M,d=.tup [k,v]/\jG k=some M/\l[i]? = some (M,v)
 |[],l,i,d,_,h=>by simp at h
 |d0::r,l,i,d,h,hi=>by
  obtain⟨k,v,rfl⟩:=xy1 h;refine eX h λM h2 h=>?_;obtain⟨a,h1,rfl⟩:=oY h;cases i with
  |zero=>simp at hi;subst hi;exact⟨k,v,M,rr,h2,rr⟩
  |succ i=>simp only[List.getElem?_cons_succ]at hi |-;exact qF h1 hi
def Jc (l:List (dh×D)):∀a:LK×LD,a.1.length=a.2.length->(l.foldl qC a).1.length=(l.foldl qC a).2.length/\(l.foldl qC a).1.length<=a.1.length+l.length:=by
 induction l with
 |nil=>simp
 |cons p l M=>
  intro a h;have h1:(qC a p).1.length<=a.1.length+1:=by
   show(dc _ _).length<=_;unfold dc;split<;>simp
  have:=M (qC a p) (mH h _ _);rw[foldl_cons,vE];exact⟨this.1,N9⟩
theorem FY (l:List (dh×D)):(bE l).1.length=(bE l).2.length/\(bE l).1.length<=l.length:=by
 have:=Jc l ([],[]) rr;exact⟨this.1,vR this.2 X9⟩
def uc:entryFor table "dict.update.loop" = some Builtin.«dict.update.loop»:=entryFor_of_tree u9
def kH:plainId "dict.update.loop" = true:=S9
section
variable {X:Cx}{af:AO}{σ:St}{B H0:Hp}{A:Around}{R:Result->Shared->Prop}{it l d:Addr}{us:LV}{ds:LD}{jv:List (dh×D)}
def Br (Y:A.handled=none)(nl:l≠it)(nd:d≠it)(hl:fF X.K B l us)(H:IsL X.K B us ds)(hp:fZ ds=some jv)
  (hR:∀M N vs ob s',Inv X af σ (upd M d (.dK ((bE jv).1.zip vs) ob)) s'->M d=none->Ext B N H0 M->(bE jv).1.length=vs.length->IsL X.K N vs (bE jv).2->R (.ok (.ret .none)) s'):
  ∀(k i:Nat)(tk:Nat)(s:Shared)(M N:Hp)(vs:LV)(ob:Obj),ds.length - i=k->i<=ds.length->Inv X af σ (upd M d (.dK ((bE (jv.take i)).1.zip vs) ob)) s->M d=none->Ext B N H0 M->lw X af (upd M d (.dK ((bE (jv.take i)).1.zip vs) ob)) it ->
   s.heap.IsListIter it l i->(bE (jv.take i)).1.length=vs.length->IsL X.K N vs (bE (jv.take i)).2 ->
   codeAny (model X.prog X.w) A (.builtin "dict.update.loop" ⟨[.ref d,.ref it,.int i tk,.none],[]⟩) R s:=by
 have n1:=H.length;have n2:=qE hp;intro k;induction k with
 |zero=>
  intro i tk s M N vs ob hk hi I hc O fp st hz hv;have Z:i=ds.length:=N9
  have m:aH B (upd M d (.dK ((bE (jv.take i)).1.zip vs) ob)):=(O.bn.trans O.nh).trans (jH hc);refine I.lisE (m.seq hl) λits r1 n z1=>?_;have e1:=r1.length;refine codeAny_builtin uc ?_;rw[Around.under_plainId kH _];refine wX (wpAny_pyNext_list_end (A:=A.in1) Y st n.isList I9 λh' GH=>?_);refine wX (wY (wY ?_));have f:=kF (t':=s.toks) (h':=h') (ch:=[it]) I (λb hb=>by rw[uT hb];exact fp) λb o hb e=>GH b o (λq=>hb (by simp[q])) e;rw[Z,<-n2,take_length]at f hz hv;exact hR M N vs ob _ f hc O hz hv
 |succ k ih=>
  intro i tk s M N vs ob hk hi I hc O fp st hz hv;have p:i<ds.length:=N9
  have m:aH B (upd M d (.dK ((bE (jv.take i)).1.zip vs) ob)):=(O.bn.trans O.nh).trans (jH hc);refine I.lisE (m.seq hl) λits r1 n z1=>?_;obtain⟨kd,J,g,ed,ek,el⟩:=qF hp (vU p);obtain⟨x,hx,L⟩:=H.get (vU p);rw[ed]at L;cases L with
  |@tup T xs _ hT t=>
   cases t with
   |cons ik r=>
    cases r with
    |cons iv r=>
     cases r
     rename_i xk P;have v:=oP ik ek;subst v;obtain⟨u,hu,ru⟩:=r1.get hx;cases (show u=Value.ref T from ru)
     refine codeAny_builtin uc ?_;rw[Around.under_plainId kH _];refine wX (wpAny_pyNext_list_item (A:=A.in1) st n.isList (x:=.ref T) (by simpa using hu) λh' Ly hs=>?_);have f:=kF (t':=s.toks) (h':=h') (ch:=[it]) I (λb hb=>by rw[uT hb];exact fp) λb o hb e=>hs.extBut b o (λq=>hb (by simp[q])) e;refine f.tupE (aV m hT) λps r2 p2 z2=>?_;obtain⟨uk,uv,rfl,rk,rv⟩:=r2.two;have y:Shared.TypeIs { s with heap:=h' } (.ref T) "tuple":=by obtain⟨o,e,c,_⟩:=p2;exact⟨o,e,c⟩
     dsimp only;refine wX (wpAny_holding (wX (wpAny_tryCatch ?_)));unfold Builtin.Dict.pairItems;refine wX (wpAny_typeOf y ?_);obtain⟨oT,eT,cT,nT,dT⟩:=p2;rw[if_pos H9];refine wX (wpAny_seqItems eT dT (wY ?_));obtain⟨zz,z,C,rel,dd⟩:=pU f.hok (a:=d) au;have E:C.length<=sizeLine:=by rw[<-rel.length];exact zz
     have nk:((bE (jv.take i)).1.zip vs).length<sizeLine:=by
      grind[FY]
     refine wpAny_holding (wpAny_dictSet_pairs (hsz:=E) (pR rk) dd λh2 h Q=>?_);have GU:(nM ((bE (jv.take i)).1.zip vs) g P).length<=sizeLine:=by grind[j5]
     obtain⟨F,S⟩:∃q,h2.get? d=some q:=let ⟨q,_,_,hq,_⟩:=h;⟨q,hq⟩;have U:=vz (t':=s.toks+1) f (a:=d) (by rw[au];exact True.intro) Q ⟨_,S⟩ (Hs GU z (rel.put g rv) h S);rw[ml,p8 hz]at U;have V:jv.take (i+1)=jv.take i++[(g,J)]:=by rw[take_add_one,el];rfl
     have j:(bE (jv.take (i+1))).1=dc (bE (jv.take i)).1 g:=by rw[V,qD];rfl
     have G:(bE (jv.take (i+1))).2=cD (bE (jv.take i)).1 (bE (jv.take i)).2 g J:=by rw[V,qD];rfl
     refine wY ⟨plainId_quiet kH _,?_⟩;refine ih (i+1) 0 _ M N (cD (bE (jv.take i)).1 vs g P) F N9 p (by rw[j];exact U) hc O ?_ ?_ ?_ ?_
     .obtain⟨W,f1⟩:=fp;refine⟨?_,f1⟩;rw[a6 nd.symm]at W |-;exact W
     .exact Ly.at λo e=>(Q.2 it nd.symm).trans e
     .rw[j];exact mH hz _ _
     .rw[G];exact hv.put (iv.mono O.bn)
end
@[simp] def mI:LD->OB
 |[.lst ds]=>(fZ ds).map λM=>(.dk (bE M).1 (bE M).2,false)
 |_=>none
def RC:bootBuiltins "dict" = some (.type "dict"):=S9
section
variable {X:Cx}
def RD (y:X.calm=true):bu X (.type "dict") (A3 X.K mI):=by
 intro af s σ H xs us Q I r h;refine cX λW Y=>?_;obtain⟨B,z,d0,bb,k,C,a,q⟩:=h;apply Y;cases C with
 |nil=>simp[mI]at a
 |cons i1 i2=>
  cases i2 with
  |cons _ _=>cases i1<;>simp[mI]at a
  |nil=>
   cases i1<;>try (simp[mI]at a;done)
   rename_i l ws ds hl D;simp only[mI]at a;refine eZ a λm hp a=>?_;cases a
   obtain⟨u,rfl,E⟩:=eB r;cases E
   have n:X.A.handled=none:=I.ok.hd y;refine callType_codes (Q₁:=λobj O=>obj=.ref s.z/\O={ s with heap:=s.heap.push _ }) PySem.F.kt_called_dict (PySem.F.kt_typeCall_dict_1 _) PySem.F.entry_dict_init (kt_code_dict_new _ ⟨rr,rr⟩) ?_;rintro obj O ⟨rfl,rfl⟩;have p:=I.laid (t':=s.toks) (λb o e=>vZ _ e) (vT _) (xS s.heap I.big);have c:H s.z=none:=I.fresh;have t:Shared.TypeIs { s with heap:=s.heap.push { cls:=.type "dict",data:=.dict #[] } } (.ref s.z) "dict":=⟨_,vY _ rr,rr⟩;refine⟨t,PySem.F.args_dict_init_2 _ _,?_⟩;unfold Builtin.«dict.__init__»;refine wX ?_;unfold Builtin.Dict.selfAndRest;refine wX (wpAny_notOrdered_dict t ?_);refine wY ?_;show wpAny _ _ (Builtin.Dict.updateFrom "dict.__init__" s.z (.ref l) [] .none) _ _ _;unfold Builtin.Dict.updateFrom;have G:aH B (upd H s.z (.dK [] { cls:=.type "dict",data:=.dict #[] })):=k.trans (jH c);refine p.lisE (G.seq hl) λits r1 v T=>?_;have pl:=v.isList;obtain⟨w,J,M,cl,f,dl⟩:=v;have g:Shared.TypeIs _ (.ref l) "list":=⟨w,M,cl⟩;refine wX (wpAny_typeOf g ?_);rw[if_pos H9];obtain⟨oc,od,U,os⟩:=w;simp only at cl f dl;subst cl f dl;refine wX (FX M (by exact n) λh' tk hk=>?_);dsimp only[Option.isNone_none];rw[if_pos rr];have i:=p.kept (t':=tk) hk;refine wX (wpAny_rule ?_);refine wX (wpAny_pyIter_list (items:=its.toArray) ⟨_,hk _ _ M,rr,J,rr⟩ ?_);have L:Inv X af σ _ { s with heap:=h'.push { cls:=.type "list_iterator",data:=.fields #[.ref l,.int 0 0] },toks:=tk }:=i.kept (t':=tk) λb o e=>vZ _ e;have ld:s.z<h'.objs.size:=vX (hk _ _ (vY _ rr));have P:l<h'.objs.size:=vX (hk _ _ M);refine wY ⟨plainId_quiet kH _,Br (A:=X.A.in1) (B:=B) (H0:=H) (l:=l) (d:=s.z) (it:=h'.objs.size) n (vS P) (vS ld) hl D hp (λV N vs ob s' R x j hz hv=>?_) _ 0 0 _ H B [] _ rr (uN _) L c (Ext.refl k) (i.fpOk (vT _) (i.hok.fresh (vT _))) ⟨_,vY _ rr,rr,rr⟩ rr .nil⟩;refine⟨rr,.ref s.z,_,R,rr,?_⟩;have S:=j.trans (Ext.laid (o:=.dK ((bE m).1.zip vs) ob) j.nh x);exact q _ _ _ S (.dk au hz (hv.mono (Ext.laid (o:=.dK ((bE m).1.zip vs) ob) j.nh x).bn)) X9
end
def Pa (h:n+40<cLine):n+1<cLine:=N9
def ja:LD->Option LK
 |[]=>some []
 |d::ds=>(jG d).bind λk=>(ja ds).map (k :: ·)
theorem Bt {K:Frag}{B:Hp}:∀ {vs:LV}{ds:LD}{ks:LK},IsL K B vs ds->ja ds=some ks->vs=ks.map kV
 |_,_,ks,.nil,e=>by simp[ja]at e;subst e;rfl
 |_,_,ks,.cons i is,e=>by
  refine eX e λk h1 e=>?_;obtain⟨r,h2,rfl⟩:=oY e;rw[oP i h1,Bt is h2];rfl
@[simp] def Jd (fo:FE)(fa:FA):FE:=λρ=>(fo ρ).bind λx=>(fa ρ).bind λds=>match x.1 with
 |.dt M vs=>if ds.length<=sizeLine then (ja ds).map λk=>((br M vs k).getD .non,false)else none
 |_=>none
section
variable {X:Cx}{o:Expr}{es:QD}{pos:Pos}
def Je {cb bA O:Pos}{b:Nat}{fo:FE}{fa:FA}(hu:X.A.units+1<cLine)(ho:JE X o fo)(ha:JA X es fa)(m:M1 X o "get" cb (.Tuple es b O) bA):JE X (.Call (.Attribute o "get" cb) [.Tuple es b O] [] bA) (Jd fo fa):=by
 refine PE.to (xT hu ho (AD ha) m) λσ H Q q=>?_;refine cX λG K=>?_;obtain⟨B,ρ,d,bb,i,r,M,q⟩:=q;refine eX M λx ex M=>?_;refine eX M λds j M=>?_;apply K;refine⟨B,ρ,x.1,x.2,i,r,ex,λv s N1 b i1 t=>?_⟩;obtain⟨xd,u⟩:=x;cases i1 with
 |@dt a ks vs w h hl hs=>
  simp only at M;split at M
  .rename_i hz;refine eZ M λk hk M=>?_;cases M
   refine⟨a,rr,.inr ⟨_,.inl (b.nh _ _ h)⟩,N1,ρ,ds,b.nh,r.mono b.bn,j,λus H2 N2 e i2=>?_⟩;have hv:=Bt i2 hk;have f:us.length<=sizeLine:=by rw[i2.length];exact hz
   refine⟨f,λp hp=>?_⟩;have c:=Ext.laid (o:=.tup us) e.nh hp;have g:=e.bn _ _ h;refine⟨j4 _ k,.inr ⟨_,k,p,.inl (c.nh _ _ (c.bn _ _ g)),rr,by rw[au,hv],rr⟩,?_⟩;have l:=(hs.mono e.bn).mono c.bn;rcases qB k hl l with⟨v,d',e1,e2,n⟩|⟨e1,e2⟩
   .rw[e1];rw[e2]at q;exact(q.into ((b.trans e).trans c)).one c.nh n
   .rw[e1];rw[e2]at q;exact(q.into ((b.trans e).trans c)).one c.nh .non
  .cases M
 |_=>simp at M
end
section
variable {K:Frag}{E:Ends}{σ:St}{H:Hp}
def ud (i:Nat)(O:FA)(a:FE):FS:=λρ=>match ρ[i]? with
 |some (some (.dt ks vs,true))=>(a ρ).bind λv=>(O ρ).bind λkd=>(ja kd).bind λM=>if aR v.1=true/\ks.length<sizeLine/\kd.length<=sizeLine then some (.nx (ρ.set i (some (.dt (dc ks M) (cD ks vs M v.1),true))))else none
 |_=>none
def Jf {i:Nat}{O:FA}{b:FE}(q:nH K (ud i O b) E σ H):Ch (GY i) (Uy (Ti K O)) (tD K b) E σ H:=by
 refine cX λG W=>?_;obtain⟨B0,H0,ρ,r,⟨N,s⟩,e,p⟩:=q;apply W;clear W;unfold ud at e;split at e
 .rename_i ks ds ei;refine eX e λv ev e=>?_;refine eX e λkd ek e=>?_;refine eX e λf hk e=>?_;split at e
  .rename_i hx;cases e
   refine⟨N,ρ,v.1,v.2,s.ext.nh,s.rep,ev,λh j N1 g i1 _=>?_⟩;have s1:=s.grow g;obtain⟨a,o,h1,h2,h3,h4⟩:=s1.ow i _ ei;refine⟨.ref a,h1,N1,ρ,kd,s1.ext.nh,s1.rep,ek,λus H2 N2 c i2=>?_⟩;have s2:=s1.grow c;have hv:=Bt i2 hk;refine⟨by rw[i2.length];exact hx.2.2,λpp hp=>?_⟩;have d:=Ext.laid (o:=.tup us) s2.ext.nh hp;have M:=s2.grow d;obtain⟨k,o',k1,k2,k3,k4⟩:=M.ow i _ ei;rw[h1]at k1;cases k1
   cases k4 with
   |@dt ks vs ds hl h5=>
    refine⟨a,rr,.inr ⟨_,f,pp,M.ext.nh _ _ k2,rr,by rw[au,hv],?_,?_⟩⟩
    .rw[length_zip];lia
    .rw[p8 hl];exact p σ _ ⟨_,M.writeB ei h1 (.dt (mH hl _ _) (h5.put (M.flat ((i1.mono c.bn).mono d.bn) hx.1)))⟩
  simp_all
 simp_all
end
section
variable {X:Cx}{pos:Pos}{e:Expr}{es:QD}
def Na (hu:X.A.units+1<cLine)(hv:JE X e fv)(hk:JA X es fk)(a:X.N[i]? = some y)(M:Ll X.env.scope y)(hd:(y == ("__debug__" : Str))=false)
  (O:(y == ("__classdict__" : Str))=false) (hs:swapsWith e (some (.Subscript (.Name y py) (.Tuple es x1 S4) pt)) pos.line X.env=pure false):JS X (.Assign [.Subscript (.Name y py) (.Tuple es x1 S4) pt] e pos) (ud i fk fv):=
 PS.to (v0 hu (jz a M hd O) (AD hk) hv hs) λ_ _ _ q=>Jf q
end
end DL
namespace L2
open PySem PySem.Spec PyProof.Rows
noncomputable def Z0 (a:Addr)(a9:List (dh×V))(ob:Obj):It:=⟨λi H=>H a=some (.dK a9 ob)/\i<a9.length,λi H x H'=>H'=H/\∃k,a9[i]? = some (k,x),λi H=>H a=some (.dK a9 ob)/\a9.length<=i⟩
def KV.get {a9:List (dh×V)}{vs:List (dh×Value)}(r:KV a9 vs){i:Nat}{k:dh}{x:V}(h:a9[i]? = some (k,x)):∃u,vs[i]? = some (k,u)/\aD x u:=by
 induction r generalizing i with
 |nil=>simp at h
 |@cons p q ps a hq t M=>
  cases i with
  |zero=>
   cases (show p=(k,x)from vK h)
   obtain⟨O,q2⟩:=q;exact⟨q2,by rw[show k=O from hq.1];rfl,hq.2⟩
  |succ i=>exact M h
def V1 (h:(ce P w).is k u=true):aD (kV k) u:=by
 cases k with
 |inl i=>exact Value.isInt_shape h
 |inr z=>exact Value.isStrOf_shape h
section
variable {P:Program}{w:World}{H:Hp}{h:Heap}{a:Addr}
def qG (ok:kY P w H h)(e:H a=some (.dK a9 ob))(hd:ob.data=.dict es ep):∃vs,KV a9 vs/\h.DictAt (ce P w) a vs ep:=by
 refine cX λG g=>?_;obtain⟨_,_,vs,r,o,M,O,h1,h2,h3,h4⟩:=pU ok e;apply g;rw[AL ok e]at h1;cases h1
 rw[hd]at h3;cases h3
 exact⟨vs,r,ob,es,AL ok e,h2,hd,h4⟩
def wJ (ok:kY P w H h)(e:H a=some (.dK a9 ob)):∃es M,ob.data=.dict es M:=by
 refine cX λG g=>?_;obtain⟨_,_,vs,r,o,O,b,h1,h2,h3,h4⟩:=pU ok e;apply g;clear g;rw[AL ok e]at h1;grind
end
def FZ {P:Program}{w:World}{K:Frag}{tg:Expr}(a it:Addr)(a9:List (dh×V))(ob:Obj){es:Array DictEntry}{v:Nat}(hd:ob.data=.dict es v):Turn P w K tg (Z0 a a9 ob) [it] it (λi h=>h.IsValIter it a i a9.length v) where
 mem:=X9
 obj:=λi h st b hb=>by
  have e:b=it:=by simpa using hb
  subst e;obtain⟨o,e,c,d⟩:=st;simp_all
 keep:=λi h h' st k=>st.at λo e=>k it X9 o e
 item:=by
  intro X f hw g hc i af s σ H E I hf st j;subst f hw g;refine cX λG W=>?_;obtain⟨l,O⟩:=j;obtain⟨vs,r,m⟩:=qG I.hok l hd;obtain⟨n,f1,f2,p,q,t⟩:=hf it X9;apply W;clear W;have hl:vs.length=a9.length:=(Paired.length r).symm;obtain⟨u,hu,ru⟩:=r.get (k:=a9[i].1) (x:=a9[i].2) (vU O);refine wpAny_pyNext_values_item (by rw[hl];exact st) m hu λh' M y=>?_;rw[hl]at M;have z:=I.turned (t':=s.toks) (λb o hb e=>(y.2 b hb).trans e) n f1 p q t;obtain⟨o,e,c,d⟩:=id M;exact⟨u,rr,tm (s:={ s with heap:=h' }) e c d H9 ⟨a9[i].2,H,z,ru,⟨rr,a9[i].1,vU O⟩,M,λb hb=>(hf b hb).1⟩⟩
 done:=by
  intro X f hw g hc i af s σ H E I hf st j;subst f hw g;refine cX λG W=>?_;obtain⟨l,B⟩:=j;obtain⟨vs,r,m⟩:=qG I.hok l hd;obtain⟨n,f1,f2,p,q,t⟩:=hf it X9;apply W;clear W;have hl:vs.length=a9.length:=(Paired.length r).symm;exact wpAny_pyNext_values_end (I.ok.hd hc) (by rw[hl];exact st) m (getElem?_eq_none N9) λh' A=>⟨rr,I.turned (t':=s.toks) (λb o hb e=>A b o hb e) n f1 p q t⟩
 self:=λ_ _ _ _ _ st h=>wpAny_pyIter_valiter st h
section
variable {X:Cx}{tg:Expr}
def V2 (O:TE):TI:=λσ H R=>O σ H λx M=>∃a a9 ob,x=.ref a/\M a=some (.dK a9 ob)/\R (Z0 a a9 ob) M
def Nb {o:Expr}{g:TE}{cb bA:Pos}(ho:PE X o g)(M:attributeBase o "values" X.env (eval o X.env)=eval o X.env:=by rfl)(O:(cb.endLine == bA.line)=true:=by rfl):PI X tg (.Call (.Attribute o "values" cb) [] [] bA) (V2 g):=by
 intro af s σ H R I h;refine wpAny_Call_method0_late M O (bD (ho af s σ H _ I h) λv s1 ⟨x,i,c,r1,a,a9,ob,ex,d,q⟩=>?_);subst ex;obtain⟨h1,h2⟩:=AK c r1 (T:="dict") (.inr (.inr (.inl ⟨rr,.inl ⟨a9,ob,d⟩⟩)));cases r1
 obtain⟨es,j,hd⟩:=wJ c.hok d;obtain⟨vs,r,m⟩:=qG c.hok d hd;have hl:=(Paired.length r).symm;refine⟨"dict","dict.values",plainAttrs_dict,PySem.F.slot_dict_values,PySem.F.type_dict_values,h1,h2,Calls.callWith_builtin rr (PySem.evalArgs_none ?_)⟩;refine call_meetsIn PySem.F.slot_dict_values h1 PySem.F.entry_dict_values (PySem.F.args_dict_values_1 _) (meets_dict_values _ a (pU c.hok d).2.1) ⟨⟨vs,m.dictOf⟩,?_⟩;have f:Inv X af σ i { s1 with heap:=s1.heap.push { cls:=.type "dict_values",data:=.fields #[.ref a] } }:=c.kept λb o e=>vZ _ e;refine wpAny_pyIter_values ⟨_,vY _ rr,rr,rr⟩ (m.keep λb o e=>vZ _ e) ?_;rw[hl];refine⟨(s1.heap.push _).objs.size,[(s1.heap.push _).objs.size],_,_,i,rr,f.kept λb o e=>vZ _ e,FZ a _ a9 ob hd,⟨_,vY _ rr,rr,rr⟩,λb hb=>?_,q⟩;have e:b=(s1.heap.push { cls:=.type "dict_values",data:=.fields #[.ref a] }).objs.size:=by simpa using hb
 subst e;exact f.fpOk (vT _) (f.hok.fresh (vT _))
end
end L2
namespace DL
open PySem PySem.Spec PySem.W PyProof.Rows L2
noncomputable def kD:dh->D
 |.inl i=>.int i
 |.inr z=>.str z
def V3 {K:Frag}{B:Hp}(k:dh):Is K B (kV k) (kD k):=by
 cases k with
 |inl i=>exact .int i
 |inr z=>exact .str z
section
variable {K:Frag}{B:Hp}
def Nc {a:Addr}{ks:LK}{vs:LV}{ds:LD}{ob:Obj}(h:B a=some (.dK (ks.zip vs) ob))(hl:ks.length=vs.length)(hs:IsL K B vs ds):nO K (Z0 a (ks.zip vs) ob) B ds:=by
 intro i H s;have hz:(ks.zip vs).length=vs.length:=by rw[length_zip];lia
 refine⟨λd ed=>?_,λM=>⟨s _ _ h,by rw[hz,hs.length];exact M⟩⟩;obtain⟨v,ev,iv⟩:=hs.get ed;have O:=(vV ev).1;refine⟨⟨s _ _ h,by rw[hz];exact O⟩,λy b hy=>?_⟩;obtain⟨rfl,k,e⟩:=hy;have:=(getElem?_zip_eq_some.mp e).2;rw[ev]at this;cases this
 exact⟨B,.refl s,iv⟩
end
section
variable {X:Cx}{e:Expr}{tg:Expr}
@[simp] noncomputable def wK (f:FE):FA:=λρ=>(f ρ).bind λx=>match x.1 with|.dk _ ds=>some ds|_=>none
def Nd (h:JE X e f)(M:attributeBase e "values" X.env (eval e X.env)=eval e X.env)(O:(cb.endLine == bA.line)=true):JI X tg (.Call (.Attribute e "values" cb) [] [] bA) (wK f):=by
 intro af s σ H R I q;refine cX λG K=>?_;obtain⟨B,ρ,ds,c,r,d,q⟩:=q;obtain⟨⟨xd,i⟩,ex,es⟩:=oX d;apply K;cases xd<;>try (cases es;done)
 cases es
 refine Nb h M O _ s σ H R I ⟨B,ρ,_,_,c,r,ex,λv g N1 b i1 _=>?_⟩;cases i1 with
 |@dk a ks vs ds ob hd hl hs=>exact⟨a,_,ob,rr,b.nh _ _ hd,q _ g N1 b (Nc hd hl hs)⟩
end
end DL
namespace DL
open PySem PySem.Spec PyProof.Rows L2
@[simp] abbrev ft (i:Nat)(j:Int):FE:=f2 dI (aq i) (fC (.int j))
def V4 (F:Fn X.prog X.w X.K X.mg X.base k x f)(hr:dr j X.A)(ha:JA X (e::es) fa)(hj:k<=j)(a:Gl X x)(M:(x == ("__debug__" : Str))=false)(he:starEach (e::es) X.env=(false,eval e X.env)::starEach es X.env)(O:(backTo pos (starEach es X.env)).any (·.1)=false):JE X (.Call (.Name x p) (e::es) [] pos) (fA f fa):=Mz F (hr.mono hj) ha a M he O
def Nf (h1:∀y∈scope.names,y.2≠.cell:=by decide +kernel)(h2:scope.kind=.function:=by rfl)(h3:∀y∈scope.names,y.2=.local->scope.names.lookup y.1=some .local:=by decide +kernel)(M:(scope.names.all λy=>!(y.2 == NameKind.free) || (X.env.cells.lookup y.1).isSome)=true:=by rfl):CompSc X scope (dm scope.names X.env.cells []):=Q7 h1 h2 h3 M
def cpC (h1:N'[j]? = some x)(h2:X.N[i]? = some x)(t:mh X N' scope (dm scope.names X.env.cells []) (j+1) r)(h3:X.env.kindOf x=some .cell\/X.env.kindOf x=some .free:=by exact Or.inl rr)(h4:(relabel scope X.env).names.lookup x=some .cell\/(relabel scope X.env).names.lookup x=some .free:=by exact Or.inl rr)(hf:(x,NameKind.free)∈scope.names:=by decide +kernel)(hc:(X.env.cells.lookup x).isSome=true:=by rfl):mh X N' scope (dm scope.names X.env.cells []) j (i::r):=.cons h1 h2 h3 h4 (p4 hf hc) t
end DL
namespace DL
open PySem PySem.Spec PySem.W PyProof.Rows L2
def qH:At->D
 |.i n=>.int n
 |.s z=>.str z
section
variable {prog:Program}{w:World}{A:Around}{E:QV}{s:Shared}
def V5 (hx:A4 x u)(hy:A4 y v):SeqAt.EqAt A s u v (cZ (qH x) (qH y)):=by
 cases x with
 |i a=>
  obtain⟨t,rfl⟩:=hx;cases y with
  |i c=>obtain⟨t',rfl⟩:=hy;exact SeqAt.EqAt.int_int _ _ _ _
  |s c=>obtain⟨t',rfl⟩:=hy;exact SeqAt.EqAt.int_str _ _ _ _
 |s a=>
  obtain⟨t,rfl⟩:=hx;cases y with
  |i c=>obtain⟨t',rfl⟩:=hy;exact SeqAt.EqAt.str_int _ _ _ _
  |s c=>obtain⟨t',rfl⟩:=hy;exact SeqAt.EqAt.str_str _ _ _ _
theorem CJ:∀ {xs ys:List At}{vs:LU},Paired A4 xs vs->Paired A4 ys vs->xs=ys
 |_,_,_,.nil,.nil=>rr
 |x::xs,y::ys,_,.cons p ps,.cons q M=>by
  rw[CJ ps M];cases x with
  |i a=>
   obtain⟨t,rfl⟩:=p;cases y with
   |i c=>obtain⟨t',e⟩:=q;cases e;rfl
   |s c=>obtain⟨t',e⟩:=q;cases e
  |s a=>
   obtain⟨t,rfl⟩:=p;cases y with
   |i c=>obtain⟨t',e⟩:=q;cases e
   |s c=>obtain⟨t',e⟩:=q;cases e;rfl
def RE (x y:At):cZ (qH x) (qH y)=true↔x=y:=by
 cases x<;>cases y<;>simp[qH]
theorem p9:∀xs ys:List At,m5 (xs.map qH) (ys.map qH)=true↔xs=ys
 |[],[]=>by simp
 |[],_::_=>by simp
 |_::_,[]=>by simp
 |x::xs,y::ys=>by
  rw[uY,uY,m5,vC,RE,p9 xs ys];simp
def RF (hx:fX s.heap xs x)(hy:fX s.heap ys y)(hu:A.units<cLine):SeqAt.EqAt A s x y (m5 (xs.map qH) (ys.map qH)):=by
 obtain⟨a,o,its,n,rfl,ho,hc,hd,r⟩:=hx;obtain⟨b,o',M,m,rfl,O,e,f,d⟩:=hy;by_cases c:a=b
 .grind[CJ,p9,SeqAt.EqAt.same]
 .have g:s.heap.IsTuple a its:=⟨o,ho,hc,n,hd⟩;have h:s.heap.IsTuple b M:=⟨o',O,e,m,f⟩;have l1:xs.length=its.size:=by exact eI r
  have l2:ys.length=M.size:=by exact eI d
  have he:∀j (h1:j<its.size) (h2:j<M.size),SeqAt.EqAt A.in1 s its[j] M[j] (cZ ((xs.map qH).getD j .non) ((ys.map qH).getD j .non)):=λj h1 h2=>by
   have p:=dz (.i 0) Value.none r (i:=j) N9;have q:=dz (.i 0) Value.none d (i:=j) N9;have e1:its.toList.getD j Value.none=its[j]:=by simp_all
   have e2:M.toList.getD j Value.none=M[j]:=by simp_all
   rw[e1]at p;rw[e2]at q;have k:(xs.map qH).getD j .non=qH (xs.getD j (.i 0)):=by simp_all
   have l:(ys.map qH).getD j .non=qH (ys.getD j (.i 0)):=by simp_all
   rw[k,l];exact V5 p q
  have rc:=SeqAt.RcAt.tuples g h hu he;have t:((List.range (min its.size M.size)).all (λj=>cZ ((xs.map qH).getD j .non) ((ys.map qH).getD j .non)) && its.size == M.size)=m5 (xs.map qH) (ys.map qH):=by
   rw[<-l1,<-l2];by_cases hl:xs.length=ys.length
   .rw[<-hl,Nat.min_self,beq_self_eq_true,Bool.and_true];have:=iT _ (xs:=xs.map qH) (ys:=ys.map qH) (by simpa using hl) λj x y e1 e2=>wj j x y e1 e2;rwa [vI]at this
   .rw[wg (by simpa using hl),beq_eq_false_iff_ne.mpr hl,Bool.and_false]
  rw[t]at rc;exact SeqAt.EqAt.of_refs c rc
theorem Ga (xs:List At):aU xs xs=some false:=by
 induction xs with
 |nil=>rfl
 |cons x xs M=>cases x<;>rw[aU,if_pos rr,M]
def Jg (hx:fX s.heap xs x)(hy:fX s.heap ys y)(h:aU (.i n::xs) (.i m::ys)=some b)(hu:A.units<cLine)(q:Q b s)(hn:A4 (.i n) u)(hm:A4 (.i m) v):KatLex prog w A true false Q [(u,v),(x,y)] 0 s:=by
 obtain⟨t,rfl⟩:=hn;obtain⟨t',rfl⟩:=hm;refine kat_cons (wpAny_eqBool_int ?_);rw[aU]at h;by_cases e:n=m
 .rw[if_pos e]at h;rw[show(n == m)=true by simp[e]];refine kat_yes (kat_cons (RF hx hy hu _ _ _ _ ?_));by_cases e2:xs=ys
  .grind[p9,Ga,kat_yes,kat_nil]
  .rw[Bool.eq_false_iff.mpr λz=>e2 ((p9 xs ys).mp z)];refine kat_no (kat_one _ _ ?_);exact IL hx hy h hu (by first|exact q|exact⟨b,rr,q⟩)
 .rw[if_neg e]at h;cases h
  rw[show(n == m)=false by simp[e]];exact kat_no (oneLt_int q)
end
def Gb (h:Heap)(xs:List At)(v:Value):Prop:=∃n k a o its m u x,xs=.i n::k/\v=.ref a/\h.get? a=some o/\o.cls=.type "tuple"/\o.data=.seq its m/\its.toList=[u,x]/\A4 (.i n) u/\fX h k x
section
variable {prog:Program}{w:World}{A:Around}{E:QV}{s:Shared}
def Ng (hx:Gb s.heap xs x)(hy:Gb s.heap ys y)(h:aU xs ys=some b)(hu:A.units<cLine)(q:Q b s):wpAny (model prog w) A (keyLt' (tuples' true) x y) Q E s:=by
 obtain⟨n,k,a,o,its,m,u,f,rfl,rfl,ho,_,hd,ei,an,d⟩:=hx;obtain⟨g,k',i,o',its',j,u',l,rfl,rfl,O,_,e,M,c,ty⟩:=hy;refine kat_lt ho hd O e ?_;rw[ei,M];have hf:decide (its.size<its'.size)=false:=by
  rw[<-vG,<-vG,ei,M];rfl
 rw[hf];exact Jg d ty h hu q an c
theorem oQ:∀ {ks:List (List At)}{vs:LU},Paired (Gb h) ks vs->∃fs,KatTups h vs fs/\fs.length=ks.length/\∀v∈fs,∃n,A4 (.i n) v
 |_,_,.nil=>⟨[],trivial,rr,X9⟩
 |k::ks,_,.cons x t=>by
  obtain⟨fs,h1,h2,h3⟩:=oQ t;obtain⟨n,k,a,o,its,m,u,M,rfl,rfl,ho,hc,hd,ei,an,_⟩:=x;refine⟨u::fs,KatTups.cons ho hc hd (by rw[<-Array.getElem?_toList,ei];rfl) h1,by simp[h2],λv hv=>?_⟩;grind
def Gc (hp:Paired (Gb s.heap) ks vs)(hn:0<ks.length)(q:Q (tuples' true) s):wpAny (model prog w) A (keyKind' vs.toArray) Q E s:=by
 obtain⟨fs,h1,h2,h3⟩:=oQ hp;refine kat_kind (T:=.type "int") h1 N9 (λv hv=>?_) H9 q;obtain⟨n,t,rfl⟩:=h3 v hv;exact .now
def Jh (hc:da ks=true)(hu:A.units<cLine)(hp:Paired (Gb s.heap) ks vs):∀(i j:Nat)(C:Bool->Shared->Prop)(s1:Shared),i<ks.length->j<ks.length->s1=s->(∀s',s'=s->C (qw (Ls ks) i j) s')->kas_ask prog w A (tuples' true) vs i j C s1:=by
 intro i j C s1 hi hj e O;subst e;have M:ks.getD i []∈ks:=by simp_all
 have a:ks.getD j []∈ks:=by simp_all
 refine Ng (dz [] _ hp hi) (dz [] _ hp hj) (fM hc M a) hu ?_;have:=O s1 rr;unfold qw Ls at this;rw[yF (uS ⟨_,M,rr⟩)]at this;exact this
end
def RG:D->Option (List At)
 |.tup [.int n,.tup es]=>(iY es).map (.i n :: ·)
 |_=>none
def ln:LD->Option (List (List At))
 |[]=>some []
 |d::ds=>(RG d).bind λa=>(ln ds).map (a :: ·)
theorem ue:∀ {ds:LD}{ks:List (List At)},ln ds=some ks->ks.length=ds.length
 |[],_,h=>by simp_all[ln]
 |d::ds,_,h=>by
  refine eX h λa h1 h=>?_;refine eZ h λr h2 h=>?_;subst h;simp[ue h2]
theorem yQ (I:Inv X af σ H s):∀ {ys:LV}{ds:LD}{ks:List (List At)}{its:LU},aL ys its->IsL X.K H ys ds->ln ds=some ks->Paired (Gb s.heap) ks its
 |_,_,_,_,.nil,.nil,h=>by cases h;exact .nil
 |_,_,_,_,.cons r c,.cons i d,h=>by
  refine eX h λa h1 h=>?_;refine eZ h λt h2 h=>?_;subst h;refine .cons ?_ (yQ I c d h2);unfold RG at h1;split at h1
  .rename_i n es;obtain⟨k,O,rfl⟩:=oY h1;cases i with
   |tup hq hl=>
    cases r
    refine cX λG g=>?_;obtain⟨its',M,⟨o,ho,hc,m,hd⟩,_⟩:=I.tuple hq;apply g;clear g;cases hl with
    |cons i1 hl=>
     cases hl with
     |cons i2 hl=>
      cases hl
      cases M with
      |cons r1 M=>
       cases M with
       |cons e M=>
        cases M
        cases i1
        have hk:dQ [D.tup es]=some [k]:=by show(iY es).bind _=_;rw[O];rfl
        have b:=p6 I (.cons e .nil) (.cons i2 .nil) hk;cases b with
        |cons b _=>exact⟨n,k,_,o,_,m,_,_,rr,rr,ho,hc,hd,rr,r1,b⟩
  simp_all
def Nh (hu:A.units<cLine):KK X A ln λ_=>true:=⟨ue,λI _ _ _ _ r i e _ hc=>have hp:=yQ I r i e;⟨λhn _ _ q=>Gc hp hn q,Jh hc hu hp⟩⟩
def Ji (hu:X.A.units+40<cLine):KK X X.A.in1.in1 ln λ_=>true:=Nh N9
@[simp] abbrev Bu:FE->(Env->D->Option D)->FE:=wG ln λ_=>true
end DL
namespace DL
open PySem PySem.Spec PyProof.Rows L2
def V6:Nat->(LU->Prop)->Prop
 |0,P=>P []
 |n+1,P=>∀a,V6 n λl=>P (a::l)
theorem RH:∀n P,V6 n P->∀us:LU,us.length=n->P us
 |0,_,h,[],_=>h
 |n+1,_,h,a::us,e=>RH n _ (h a) us (Nat.succ.inj e)
section
variable {P:Program}{w:World}{K:Frag}{mg:SV}{base:Heap}
def KC (K:Frag)(mg:SV)(x:Str)(c:D):Prop:=∃u v,mg x=some u/\aD v u/\∀B,Is K B v c
def KD (w:World)(K:Frag)(mg:SV)(x:Str)(c:List (Str×D)):Prop:=∃d,mg x=some (.ref d)/\m9 K w.params d c
def kc_of {x:Str}{c:D}{h:Heap}(X:K.In h)(G:h.Ns mainGlobals mg)(k:∃u v,nsIn K mainGlobals x=some (some u)/\aD v u/\∀B,Is K B v c):KC K mg x c:=let ⟨u,v,e,r⟩:=k;⟨u,v,mg_of X G e,r⟩
def kd_of {x:Str}{c:List (Str×D)}{h:Heap}(X:K.In h)(G:h.Ns mainGlobals mg)(k:∃d,nsIn K mainGlobals x=some (some (.ref d))/\m9 K w.params d c):KD w K mg x c:=let ⟨d,e,r⟩:=k;⟨d,mg_of X G e,r⟩
def bL.fqL {x:Str}{st:Stmt}{k:Nat}{O:LD->OB}(F:bL K x st)(B:∃h,K.In h/\h.Ns mainGlobals mg)(g:FS)(N:LS)(n:Nat)
  (hb:∀ {f:Addr}{dF:Value}{A:Around}{outer:List PySem.Env}{s:Shared}{H:Hp}{E:XK},N.Nodup->dr k (A.deeper (envOfC x (aE st) s.z f dF))->(A.deeper (envOfC x (aE st) s.z f dF)).units+40<cLine->(∀c P,PySem.W.tabIn K x=some (c,P)->dF=.ref c)->xY (pN A2 P w K mg base N x (aE st) f dF A outer s H E).nox (bM st) g)
  (S:FnScope N (N.take n) (aE st):=by refine⟨rr,rr,rr,?_,rr,?_,?_⟩<;>decide +kernel)
  (M:∀(kV doc pm:Value)(an:Option Addr)(dF ct:Value)(us:LU),us.length=(N.take n).length->bindArgs (fnOf x x (fG st) (bM st) (aE st) .none kV doc pm an dF ct) ⟨us,[]⟩=pure ((N.take n).zip us):=by
   exact λ_ _ _ _ _ _=>RH _ _ (by(repeat intro);rfl))
  (e:ax g (N.take n).length (N.length - (N.take n).length)=O:=by rfl):
  Fn P w K mg base (k+1) x O:=let ⟨_,X,G⟩:=B;e ▸ F.fnL X G S M λ_ _ _ _ _ _ _ hc hr=>hb S.nd hr (la hr) hc
end
section
variable {X:Cx}{x:Str}{pos:Pos}
def pgV (i:Nat)(M:X.N.Nodup)(hi:X.N[i]? = some x)(hx:Lm X.env.scope x)(hf:X.fn x=true\/X.env.scope.names.lookup x=some .local):PG X (.Name x pos) (i7 i):=Ca M hi hx hf
def Tu {fp}(i:Nat)(M:N'.Nodup:=by decide +kernel)(hi:(hJ X N' scope cl C s H fp).N[i]? = some x:=by rfl)(hx:Lm (hJ X N' scope cl C s H fp).env.scope x:=by exact Or.inl rr)(hf:(hJ X N' scope cl C s H fp).fn x=true\/(hJ X N' scope cl C s H fp).env.scope.names.lookup x=some .local:=by first|exact .inl rr|exact .inr rr):PG (hJ X N' scope cl C s H fp) (.Name x pos) (i7 i):=Ca M hi hx hf
def V7 (N':LS)(hi:JI X tg dH fi)(hc:∀ {C s H fp},JC (hJ X N' scope (dm scope.names X.env.cells []) C s H fp) pJ fc)(he:∀ {C s H fp},JE (hJ X N' scope (dm scope.names X.env.cells []) C s H fp) sw fe)
  (O:Mn X.K nT sr g) (a:∀ {C s H fp},PG (hJ X N' scope (dm scope.names X.env.cells []) C s H fp) tg g)
  (cp:mh X N' scope (dm scope.names X.env.cells []) nT cap)
  (S:CompSc X scope (dm scope.names X.env.cells [])) (M:X.calm=true)
  (hs:∀x,foldedSetIterable dH X.env x=pure x):
  JE X (.ListComp sw [⟨tg,dH,pJ,0⟩] scope pos) (j7 fi nT cap sr fc fe):=Mo M S cp hi (λ_ _ _ _=>a) O (λ_ _ _ _=>hc) (λ_ _ _ _=>he) hs
def V8 (N':LS)(a:X.N.Nodup)(hi:JI X tg dH fi)(hc:∀ {C s H fp},JC (hJ X N' scope (dm scope.names X.env.cells []) C s H fp) pJ fc)(he:∀ {C s H fp},JE (hJ X N' scope (dm scope.names X.env.cells []) C s H fp) sw fe)
  (O:Mn X.K nT sr g) (b:∀ {C s H fp},PG (hJ X N' scope (dm scope.names X.env.cells []) C s H fp) tg g)
  (cp:mh X N' scope (dm scope.names X.env.cells []) nT cap)
  (c:X.N[i]? = some y) (hy:X.env.kindOf y=some .local)
  (d:swapsWith (.ListComp sw [⟨tg,dH,pJ,0⟩] scope pos) (some (.Name y py)) spos.line X.env=pure true)
  (S:CompSc X scope (dm scope.names X.env.cells [])) (M:X.calm=true)
  (hs:∀x,foldedSetIterable dH X.env x=pure x):
  JS X (.Assign [.Name y py] (.ListComp sw [⟨tg,dH,pJ,0⟩] scope pos) spos) (dN i (j7 fi nT cap sr fc fe)):=Mp M a c hy d S cp hi (λ_ _ _ _=>b) O (λ_ _ _ _=>hc) (λ_ _ _ _=>he) hs
def V9 (hi:JI X tg dH fi)(M:PG X tg t)(O:Lo X.K sr t)(hb:xY X body g)(hp:PassesOwn (model X.prog X.w) X.A X.env X.xe)(hc:X.calm=true)
  (hs:∀x,foldedSetIterable dH X.env x=pure x):JS X (.For tg dH body [] pos) (Fp fi sr g):=QZ hp hc hi M O hb hs
def Pb (hi:PI X tg dH (Q5 X.K fi))(M:PG X tg t)(O:Lo X.K sr t)(hb:xY X body g)(hp:PassesOwn (model X.prog X.w) X.A X.env X.xe)(hc:X.calm=true)
  (hs:∀x,foldedSetIterable dH X.env x=pure x):JS X (.For tg dH body [] pos) (pX fi sr g):=My hp hc hi M O hb hs
end
end DL
namespace DL
open PySem PySem.Spec PySem.W PyProof.Rows L2
def qI:entryFor table "dict_itemiterator.__iter__" = some Builtin.«dict_keyiterator.__iter__»:=entryFor_alias (id':="dict_keyiterator.__iter__") u9 rr S9 u9
def wL (he:IsItemIter s.heap it d i n O ok ov)(h:Q (.ref it) s):wpAny (model prog w) A (pyIter (.ref it)) Q E s:=by
 have M:s.TypeIs (.ref it) _:=⟨_,he,rr⟩;refine wpAny_pyIter_slot M PySem.F.slot_dict_itemiterator_iter (wpAny_call_entry PySem.F.slot_dict_itemiterator_iter M qI ?_ (PySem.F.args_dict_itemiterator_iter_1 _));exact wY ⟨_,rr,"dict_itemiterator",_,M,PySem.F.slot_dict_itemiterator_next.lookup,h⟩
noncomputable def Z1 (a:Addr)(a9:List (dh×V))(ob:Obj):It:=⟨λi H=>H a=some (.dK a9 ob)/\i<a9.length,λi H y H'=>∃T k v,y=.ref T/\H T=none/\H'=upd H T (.tup [kV k,v])/\a9[i]? = some (k,v),λi H=>H a=some (.dK a9 ob)/\a9.length<=i⟩
def Bv {P:Program}{w:World}{K:Frag}{es:QD}{p:Nat}{pt:Pos}(a it:Addr)(a9:List (dh×V))(ob:Obj){ds:Array DictEntry}{l:Nat}(hd:ob.data=.dict ds l):Turn P w K (.Tuple es p pt) (Z1 a a9 ob) [it] it (λi h=>∃ok M,IsItemIter h it a i a9.length l ok M) where
 mem:=X9
 obj:=λi h st b hb=>by
  grind
 keep:=λi h h' st k=>let ⟨ok,M,e⟩:=st;⟨ok,M,k it X9 _ e⟩
 item:=by
  intro X c hw d hc i af s σ H E I hf st f;subst c hw d;refine cX λG W=>?_;obtain⟨ok,M,he⟩:=st;obtain⟨g,O⟩:=f;obtain⟨vs,r,m⟩:=qG I.hok g hd;have hl:=(Paired.length r).symm;obtain⟨u,hu,ru⟩:=r.get (k:=a9[i].1) (x:=a9[i].2) (vU O);apply W;clear W;have fresh:=I.hok.fresh (vT _);have j:=vS (vX he);refine wpAny_pyNext_items_item (by rw[hl];exact he) m hu λkey h' t ho v hsz hk=>?_;rw[hl]at ho;refine⟨_,rr,wpAny_letOwnedTupleGo_items ho λh2 y s2=>?_⟩;have n:Heap.SameBut it h' h2:=s2;have A:∀b o,b∉[it]->s.heap.get? b=some o->h2.get? b=some o:=λb o hb q=>n.extBut _ _ (λz=>hb (by simp[z])) (hk b o (λz=>hb (by simp[z])) q);have new:bj X.prog X.w (upd H s.z (.tup [kV a9[i].1,a9[i].2])) h2 s.z (.tup _):=⟨by show 2<=sizeLine;decide,[key,u],.cons (V1 t) (.cons ru .nil),⟨_,n.extBut _ _ j.symm v,rr,_,rr⟩⟩;refine⟨.ref s.z,upd H s.z _,Cz (s:=s) (t':=s.toks) I hf A (vT _) new,rr,⟨_,a9[i].1,a9[i].2,rr,fresh,rr,vU O⟩,⟨_,_,y⟩,λb hb=>?_⟩;have B:b≠s.z:=by
   simp_all
  rw[a6 B];exact(hf b hb).1
 done:=by
  intro X c hw d hc i af s σ H E I hf st f;subst c hw d;obtain⟨ok,M,he⟩:=st;obtain⟨g,C⟩:=f;obtain⟨vs,r,m⟩:=qG I.hok g hd;have hl:=(Paired.length r).symm;exact wpAny_pyNext_items_end (I.ok.hd hc) (by rw[hl];exact he) m (getElem?_eq_none N9) λh' hk=>⟨rr,kF (t':=s.toks) I hf λb o hb q=>hk b o (λz=>hb (by simp[z])) q⟩
 self:=λ_ _ _ _ _ st h=>let ⟨_,_,he⟩:=st;wL he h
section
variable {X:Cx}{es:QD}{kt:Nat}{pt:Pos}{e:Expr}
def Z2 (O:TE):TI:=λσ H R=>O σ H λx M=>∃a a9 ob,x=.ref a/\M a=some (.dK a9 ob)/\R (Z1 a a9 ob) M
def Jj {o:Expr}{g:TE}{cb bA:Pos}(ho:PE X o g)(M:attributeBase o "items" X.env (eval o X.env)=eval o X.env:=by rfl)(O:(cb.endLine == bA.line)=true:=by rfl):PI X (.Tuple es kt pt) (.Call (.Attribute o "items" cb) [] [] bA) (Z2 g):=by
 intro af s σ H R I h;refine wpAny_Call_method0_late M O (bD (ho _ s σ H _ I h) λv s1 ⟨x,i,c,r1,a,a9,ob,ex,d,q⟩=>?_);subst ex;obtain⟨h1,h2⟩:=AK c r1 (.inr (.inr (.inl ⟨rr,.inl ⟨a9,ob,d⟩⟩)));cases r1
 obtain⟨es,j,hd⟩:=wJ c.hok d;obtain⟨vs,r,m⟩:=qG c.hok d hd;have hl:=(Paired.length r).symm;refine⟨"dict","dict.items",plainAttrs_dict,PySem.F.slot_dict_items,PySem.F.type_dict_items,h1,h2,Calls.callWith_builtin rr (PySem.evalArgs_none ?_)⟩;refine call_meetsIn PySem.F.slot_dict_items h1 PySem.F.entry_dict_items (PySem.F.args_dict_items_1 _) (meets_dict_items _ a (pU c.hok d).2.1) ⟨⟨vs,m.dictOf⟩,?_⟩;have f:Inv X af σ i { s1 with heap:=s1.heap.push { cls:=.type "dict_items",data:=.fields #[.ref a] } }:=c.kept λb o e=>vZ _ e;refine wpAny_pyIter_items ⟨_,vY _ rr,rr,rr⟩ (m.keep λb o e=>vZ _ e) ?_;rw[hl];refine⟨(s1.heap.push _).objs.size,[(s1.heap.push _).objs.size],_,_,i,rr,f.kept λb o e=>vZ _ e,Bv a _ a9 ob hd,⟨_,_,vY _ rr⟩,λb hb=>?_,q⟩;have e:b=(s1.heap.push { cls:=.type "dict_items",data:=.fields #[.ref a] }).objs.size:=by simpa using hb
 subst e;exact f.fpOk (vT _) (f.hok.fresh (vT _))
noncomputable def lH (ks:LK)(ds:LD):LD:=(ks.zip ds).map λx=>.tup [kD x.1,x.2]
def Jk {K:Frag}{B:Hp}{a:Addr}{ks:LK}{vs:LV}{ds:LD}{ob:Obj}(h:B a=some (.dK (ks.zip vs) ob))(hl:ks.length=vs.length)(hs:IsL K B vs ds):nO K (Z1 a (ks.zip vs) ob) B (lH ks ds):=by
 intro i H s;have hz:(ks.zip vs).length=vs.length:=by rw[length_zip];lia
 have hn:=hs.length;refine⟨λd ed=>?_,λO=>⟨s _ _ h,by simp_all[lH]⟩⟩;unfold lH at ed;rw[vA]at ed;obtain⟨⟨k0,d0⟩,ek,rfl⟩:=oY ed;obtain⟨e1,e2⟩:=getElem?_zip_eq_some.mp ek;obtain⟨v,ev,iv⟩:=hs.get e2;have M:=(vV ev).1;refine⟨⟨s _ _ h,by rw[hz];exact M⟩,λy j hy=>?_⟩;obtain⟨T,k,f,rfl,g,rfl,e⟩:=hy;obtain⟨g1,b⟩:=getElem?_zip_eq_some.mp e;rw[e1]at g1;cases g1;rw[ev]at b;cases b;have c:=Ext.laid (o:=.tup [kV k0,f]) s g;exact⟨_,c,.tup (gN.of au) (.cons (V3 _) (.cons (iv.mono c.bn) .nil))⟩
@[simp] def CK (f:FE):FA:=λρ=>(f ρ).bind λx=>match x.1 with|.dk ks ds=>some (lH ks ds)|_=>none
def Jl (h:JE X e f)(M:attributeBase e "items" X.env (eval e X.env)=eval e X.env)(O:(cb.endLine == bA.line)=true):JI X (.Tuple es kt pt) (.Call (.Attribute e "items" cb) [] [] bA) (CK f):=by
 intro af s σ H R I q;refine cX λG K=>?_;obtain⟨B,ρ,ds,c,r,d,q⟩:=q;obtain⟨⟨xd,i⟩,ex,es⟩:=oX d;apply K;cases xd<;>try (cases es;done)
 cases es
 refine Jj h M O _ s σ H R I ⟨B,ρ,_,_,c,r,ex,λv g N1 b i1 _=>?_⟩;cases i1 with
 |@dk a ks vs ds ob hd hl hs=>exact⟨a,_,ob,rr,b.nh _ _ hd,q _ g N1 b (Jk hd hl hs)⟩
end
section
variable {K:Frag}{E:Ends}{σ:St}{H:Hp}
def qJ (i:Nat)(O a:FE):FS:=λρ=>match ρ[i]? with
 |some (some (.dk ks vs,true))=>(a (kZ ρ)).bind λv=>(O ρ).bind λk=>(jG k.1).bind λM=>if ks.length<sizeLine then some (.nx (ρ.set i (some (.dk (dc ks M) (cD ks vs M v.1),true))))else none
 |_=>none
def Gd (q:nH K (qJ i fk fv) E σ H):Ch (GY i) (tD K fk) (tD K fv) E σ H:=by
 refine cX λG W=>?_;obtain⟨B0,H0,ρ,r,⟨N,s⟩,e,p⟩:=q;apply W;clear W;unfold qJ at e;split at e
 .rename_i ks ds ei;refine eX e λv ev e=>?_;refine eX e λk ek e=>?_;refine eX e λO hk e=>?_;split at e
  .cases e
   refine⟨di N _,kZ ρ,v.1,v.2,bw.trans s.ext.nh,s.repH,ev,λf g N1 b i1 _=>?_⟩;obtain⟨s1,c⟩:=s.growH b;obtain⟨a,o,h1,h2,h3,h4⟩:=s1.ow i _ ei;refine⟨.ref a,h1,_,ρ,k.1,k.2,s1.ext.nh,s1.rep,ek,λh H2 N2 M i2 _=>?_⟩;have s2:=s1.grow M;have hv:=oP i2 hk;subst hv;obtain⟨j,o',k1,k2,k3,k4⟩:=s2.ow i _ ei;rw[h1]at k1;cases k1
   cases k4 with
   |@dk ks vs ds hl h5 ob=>
    refine⟨a,rr,.inl ⟨_,O,_,s2.ext.nh _ _ k2,rr,?_,λd=>?_⟩⟩
    .rw[length_zip];lia
    .rw[p8 hl];exact p σ _ ⟨_,s2.writeB ei h1 (.dk (mH hl _ _) (h5.put ((i1.mono c).mono (dj λa o e q=>⟨M.bn a o e,q⟩))))⟩
  .cases e
 simp_all
end
section
variable {X:Cx}{pos:Pos}{e k:Expr}
def Jm (hu:X.A.units+1<cLine)(hv:JE X e fv)(hk:JE X k fk)(a:X.N[i]? = some y)(M:Ll X.env.scope y)(hd:(y == ("__debug__" : Str))=false)
  (O:(y == ("__classdict__" : Str))=false) (hs:swapsWith e (some (.Subscript (.Name y py) k pt)) pos.line X.env=pure false):JS X (.Assign [.Subscript (.Name y py) k pt] e pos) (qJ i fk fv):=
 PS.to (v0 hu (jz a M hd O) hk hv hs) λ_ _ _ q=>Gd q
end
section
variable {prog:Program}{w:World}{A:Around}{E:QV}{s:Shared}
theorem CL:∀(vs:LU)(ns:LI),vs.length=ns.length->(∀(i:Nat)(v:Value),vs[i]? = some v->∃(m:Int)(t:Tok),ns[i]? = some m/\v=Value.int m t)->IntsAre vs ns
 |[],[],_,_=>.nil
 |v::vs,n::ns,h,k=>by
  obtain⟨m,t,e,rfl⟩:=k 0 v rr;cases (show some n=some m from e)
  exact .cons n t (CL vs ns (by simpa using h) λi v hv=>k (i+1) v hv)
def yR (hh:A.handled=none)(lo:(a == sysModules)=false)(hm:s.heap.DictAt (ce prog w) a a9 ep)(hk:a9.map (·.1)=ns.map .inl)(l:ns.length<64)
  (o:∀(h1 h':Heap)(tk:Nat)(b:Addr)(out:AV)(n:Nat)(M:LI),(∀c u,s.heap.get? c=some u->h1.get? c=some u)->(∀c u,h1.get? c=some u->h'.get? c=some u)->h1.objs.size<=b->h'.get? b=some (seqObj "list" out n) ->
   IntsAre out.toList M->M.Perm ns->M.Pairwise (·<=·)->Q (.ref b) { s with heap:=h',toks:=tk }):
  wpAny (model prog w) A (call (.builtin "sorted") [.ref a]) Q E s:=by
 refine Calls.call_function_entry kind_sorted plain_sorted entry_sorted (args_sorted1 _) ?_;refine wX (wY ?_);have e:=by have:=congrArg List.length hk;simpa using this
 refine wX (kdu_collect (A:=A.in1) (kdl_dict lo) (by exact hh) hm (by rw[sizeLine_eq];lia) λh1 tk f d O=>?_);have g:f.toList.length=ns.length:=by rw[vG,O.1,e]
 have p:=CL f.toList ns g λi v hv=>by
  obtain⟨k,x,e1,e2⟩:=O.2 i v (by simpa using hv);have j:(a9.map (·.1))[i]? = some k:=by rw[vA,e1];rfl
  rw[hk,vA]at j;obtain⟨m,r,rfl⟩:=oY j;obtain⟨t,rfl⟩:=Value.isInt_shape (k:=m) (v:=v) e2;exact⟨m,t,r,rr⟩
 refine wX (wpAny_newList ?_ (by rw[g,sizeLine_eq];lia));have h:(h1.push (seqObj "list" f.toList.toArray 0)).get? h1.objs.size=some _:=vY _ rr;refine wX (wpAny_holding (wpAny_call_entry slot_list_sort ⟨_,h,rr⟩ entry_list_sort (list_sort_tree h p (by rw[g];exact l) λout M y z B=>⟨_,rr,?_⟩) (args_list_sort _)));obtain⟨n,he⟩:=sortedHeap_at (out:=out) h;refine wY ⟨_,rr,o h1 _ _ _ out n M d (λb u q=>?_) (vT _) he y z B⟩;have hl:=vX q;rw[sortedHeap_old (vS hl) (by simp_all[lt_succ_of_lt])];exact vZ _ q
end
noncomputable def ug:LK->Option LI
 |[]=>some []
 |.inl n::ks=>(ug ks).map (n :: ·)
 |.inr _::_=>none
theorem yS:∀ {ks:LK}{ns:LI},ug ks=some ns->ks=ns.map .inl
 |[],_,h=>by cases h;rfl
 |.inl n::ks,_,h=>by
  obtain⟨r,h1,rfl⟩:=oY h;rw[yS h1];rfl
 |.inr _::_,_,h=>by cases h
def Ni {a9:List (dh×V)}{vs:List (dh×Value)}(r:KV a9 vs):vs.map (·.1)=a9.map (·.1):=by
 induction r with
 |nil=>rfl
 |cons h t M=>simp_all
@[simp] def Jn:LD->OB
 |[.dk ks _]=>(ug ks).bind λns=>if ns.length<64 then some (.lst ((tV ns).map .int),true)else none
 |_=>none
section
variable {X:Cx}
def Ge (hc:X.calm=true):bu X (.builtin "sorted") (A3 X.K Jn):=by
 intro af s σ H xs us Q I r h;refine cX λG W=>?_;obtain⟨B,dl,d,bb,j,i,O,q⟩:=h;apply W;clear W;cases i with
 |nil=>simp at O
 |cons i1 i2=>
  cases i2 with
  |cons _ _=>simp_all
  |nil=>
   cases i1 with
   |@dk a ks vs ds ob hd hl hs=>
    obtain⟨u,rfl,l⟩:=eB r;cases l
    refine eX O λns en O=>?_;split at O
    .rename_i p;cases O
     have c:=j _ _ hd;obtain⟨es,C,f⟩:=wJ I.hok c;obtain⟨t,v,m⟩:=qG I.hok c f;have g:t.map (·.1)=ns.map .inl:=by rw[Ni v,List.map_fst_zip N9,yS en]
     refine yR (I.ok.hd hc) (pU I.hok c).2.1 m g p λh1 h' tk b out n x k1 k2 hb he y M z=>?_;have e:=IE M z;subst e;have k:Inv X _ σ H { s with heap:=h1,toks:=tk }:=nU I k1 rr rr;have hf:=k.hok.fresh hb;have A:=Ext.laid (o:=.lst ((tV ns).map V.int)) j hf;exact⟨.ref b,_,k.laid k2 hb (show bj _ X.w _ h' _ (.lst _)from ⟨by rw[vI];unfold tV;rw[(aF _ ns).length_eq,sizeLine_eq];lia,out.toList,n,iC y,he⟩),rr,q _ _ _ A (.lst (fF.of au) (qz _)) λ_=>⟨_,_,_,rr,rr,hf,au,qz _⟩⟩
    simp_all
   |_=>simp at O
def RI (hu:X.A.units+1<cLine)(hi:JE X i fi)(ho:JE X o fo)(hm:behindInMarks .In o=false):JE X (.Compare i [.In] [o] pos) (f2 Zz fi fo):=by
 refine PE.to (PL (Qy hu hi ho) hm) λσ H Q q=>?_;refine cX λG K=>?_;obtain⟨B,ρ,d,bb,c,r,M,q⟩:=q;refine eX M λy e M=>?_;refine eX M λx ex M=>?_;apply K;refine⟨B,ρ,y.1,y.2,c,r,e,λf g N1 O i2 _=>⟨N1,ρ,x.1,x.2,O.nh,r.mono O.bn,ex,λv H2 N2 b i1 j=>?_⟩⟩;obtain⟨xd,l⟩:=x;cases i1 with
 |@dk a ks vs ds ob h hl hs=>
  refine eZ M λk hk M=>?_;cases M
  have hv:=oP i2 hk;subst hv;refine⟨a,j4 _ k,rr,.inl ⟨_,k,_,.inl (b.nh _ _ h),rr,rr⟩,?_⟩;rw[tZ hl hs];exact(q.into (O.trans b)).one b.nh (.bl _)
 |_=>simp at M
end
end DL
namespace DL
open PySem PySem.Spec PyProof.Rows L2
@[simp] abbrev fV (i:Nat)(g:FA):FA:=ak (aq i) g
@[simp] abbrev fI (n:Int):FE:=fC (.int n)
@[simp] abbrev fS (s:PySem.Str):FE:=fC (.str s)
end DL
namespace DL
open PySem PySem.Spec PySem.W PyProof.Rows L2
def CM:Value->Int
 |.int n _=>n
 |_=>0
def koI {prog:Program}{w:World}:KOf (PySem.intKind prog w) CM .int:=⟨intKind_is prog w,λh=>Value.isInt_shape h,λ_ _=>rr,λ_ _=>rr⟩
theorem IntsAre.at:∀ {vs:LU}{ss:LI},IntsAre vs ss->∀(i:Nat)(v:Value),vs[i]? = some v->∃x t,v=.int x t/\ss[i]? = some x
 |_,_,.nil,i,v,h=>by simp at h
 |_,_,.cons x t hr,0,v,h=>by simp at h;exact⟨x,t,h.symm,rr⟩
 |_,_,.cons x t hr,i+1,v,h=>by
  simp only[List.getElem?_cons_succ]at h;exact IntsAre.at hr i v h
end DL
namespace DL
open PySem PySem.Spec PyProof.Rows L2
def Bw:typeLookup (.type "list_reverseiterator") "__len__" = pure none:=O9
def Nj:typeLookup (.type "list_reverseiterator") "__length_hint__" = pure (some (.builtin "list_reverseiterator.__length_hint__")):=O9
def By:bootBuiltins "reversed" = some (.type "reversed"):=S9
section
variable {prog:Program}{w:World}{A:Around}{E:QV}{s:Shared}{l it:Addr}{items:AV}
def Jo {Q:Bool->Shared->Prop}(M:s.TypeIs (.ref it) "list_reverseiterator")(h:Q false s):wpAny (model prog w) A (Builtin.List.listLengthHint (.ref it)) Q E s:=by
 refine wX (wpAny_specialOf M Bw ?_);refine wX (wpAny_specialOf M Nj ?_);generalize O:("list_reverseiterator.__length_hint__" : String)=id0;subst O;refine wX (wpAny_isInstance (b:=true) M u9 ?_);exact wY h
def sR (hh:A.handled=none)(n:l≠it)(GI:s.heap.IsRevIter it l ((items.size:Int) - 1))(hl:s.heap.IsList l items)(hn:items.size<=sizeLine)
  (p:∀s' M f,(∀b o,b≠it->s.heap.get? b=some o->s'.heap.get? b=some o)->s'.gens=s.gens->s'.os=s.os->s'.heap.get? s.heap.objs.size=some (seqObj "list" M f)->M.toList=items.toList.reverse->Q (.ref s.heap.objs.size) s'):
  wpAny (model prog w) A (call (.type "list") [.ref it]) Q E s:=by
 have h:∀ {b o},s.heap.get? b=some o->b≠s.heap.objs.size:=λe=>vS (vX e);have j:it≠s.heap.objs.size:=by obtain⟨o,e,_⟩:=id GI;exact h e
 have q:l≠s.heap.objs.size:=by obtain⟨o,e,_⟩:=id hl;exact h e
 refine callType_codes (Q₁:=λobj a=>obj=.ref s.heap.objs.size/\a={ s with heap:=s.heap.push _ }) called_list (PySem.F.typeCall_list_1 _) PySem.F.entry_list_init
  (code_list_new _ ⟨rr,rr⟩) λobj a c=>?_
 obtain⟨rfl,rfl⟩:=c;have hS:(s.heap.push { cls:=.type "list",data:=.seq #[] }).get? s.heap.objs.size=some _:=vY _ rr;refine⟨⟨_,hS,rr⟩,PySem.F.args_list_init_2 _ _,?_⟩;refine wX ?_;unfold Builtin.List.listItems;refine wX (wpAny_seqItems hS rr (wY ?_));refine wX (wpAny_updateSeq hS rr ?_);have m:=Heap.get?_update_self (Obj.mapSeq (λ_=>(#[]:AV))) hS rr;have d:∀b o,s.heap.get? b=some o->((s.heap.push { cls:=.type "list",data:=.seq #[] }).update s.heap.objs.size (Obj.mapSeq (λ_=>(#[]:AV)))).get? b=some o:=λb o e=>(Heap.get?_update_other _ _ (Ne.symm (h e))).trans (vZ _ e);refine wX (wpAny_letGo ?_);generalize (s.heap.push _).update s.heap.objs.size _=g at m d |-;have O:=GI.at λo e=>d _ _ e;have r:g.IsList l items:=hl.at λo e=>d _ _ e;have W:=Walks.listRev (prog:=prog) (w:=w) (A:=A.in1.in1) hh it l n items;have t:s.heap.objs.size∉[it,l]:=by grind
 unfold Builtin.List.listExtendWith;refine wX (wpAny_typeOf (T:="list_reverseiterator") (show Shared.TypeIs { s with heap:=g } _ _ from Heap.IsRevIter.typeIs (s:={ s with heap:=g }) O) ?_);rw[if_neg (by simp[Builtin.List.listSameRef,j.symm])];refine wX (wpAny_pyIter_revIter O ?_);refine wX (wpAny_holding (Jo (Heap.IsRevIter.typeIs (s:={ s with heap:=g }) O) ?_));rw[if_neg H9];refine wY ⟨plainId_quiet plain_extend_loop _,codeAny_extend_loopS W.toS hn _ t _ items.size 0 _ _ _ rr (uN _) ⟨uN _,by simp_all,r⟩ m (ItemsOf.nil _) λs' M f hm u k=>?_⟩;refine⟨rr,p s' M f (λb o hb e=>hm.heap b o (λz=>?_) (d b o e)) hm.gens hm.os u ?_⟩
 .simp_all
 .apply ext_getElem?;intro i;by_cases hi:i<items.size
  .obtain⟨v,hv⟩:∃v,M[i]? = some v:=⟨_,Array.getElem?_eq_getElem (by rw[k.1];exact hi)⟩;rw[Array.getElem?_toList,hv,List.getElem?_reverse (by simpa using hi)];have:=k.2 i v hv;simp_all
  .rw[getElem?_eq_none (by rw[vG,k.1];lia),getElem?_eq_none I9]
end
@[simp] noncomputable def VA:D->OB
 |.lst ds=>some (.lst ds.reverse,true)
 |_=>none
def aL.rev (h:aL vs us):aL vs.reverse us.reverse:=by
 induction h with
 |nil=>exact .nil
 |cons r _ M=>rw[reverse_cons,reverse_cons];exact M.append (.cons r .nil)
def IsL.rev {K:Frag}{B:Hp}{vs:LV}:∀ {ds:LD},IsL K B vs ds->IsL K B vs.reverse ds.reverse:=by
 induction vs with
 |nil=>intro ds h;cases h;exact .nil
 |cons v vs M=>intro ds h;cases h with|cons h t=>rw[reverse_cons,reverse_cons];exact(M t).append (.cons h .nil)
section
variable {X:Cx}{e:Expr}{pos p pos2 p2:Pos}
def Bz (O:X.calm=true)(hl:X.mg "list" = none)(hm:X.mg "reversed" = none)(he:JE X e f)(j:Gl X "list")(v:Gl X "reversed")
  (hs:starEach [e] X.env=[(false,eval e X.env)])
  (n:starEach [.Call (.Name "reversed" p2) [e] [] pos2] X.env=[(false,eval (.Call (.Name "reversed" p2) [e] [] pos2) X.env)]):
  JE X (.Call (.Name "list" p) [.Call (.Name "reversed" p2) [e] [] pos2] [] pos) (f1 VA f):=by
 intro af s σ H Q I q;refine cX λW Y=>?_;obtain⟨B,ρ,d,bb,x,r,a,dJ⟩:=q;obtain⟨⟨xd,R⟩,ex,a⟩:=oX a;apply Y;clear Y;cases xd<;>try (cases a;done)
 rename_i ds;cases a
 refine wpAny_Call_Name_kw (eE I j hl wn ?_ H9 H9);refine PyProof.Rows.callWith_type1 ?_ (by rw[n];rfl) rr;rw[n];refine Calls.spliced_cons ?_;refine wpAny_Call_Name_kw (eE I v hm By ?_ H9 H9);refine PyProof.Rows.callWith_type1 (bD (eV he l5 hs pos2 af s σ H (λvs k=>∃N1,Ext B N1 H k/\IsL X.K N1 vs [.lst ds]) I ⟨B,ρ,[.lst ds],x,r,by simp[ak,ay,ex],λvs k N1 M i1=>⟨N1,M,i1⟩⟩) λus s1 ⟨vs,k,c,r1,N1,M,g⟩=>?_) (by rw[hs];rfl) rr;cases g with
 |cons y z=>
  cases z
  cases y
  rename_i l ws h m1;obtain⟨S,rfl,A⟩:=eB r1;cases A
  refine c.lisE (M.nh.seq h) λits t pl C=>?_;have D:l<s1.heap.objs.size:=by obtain⟨o,i,_⟩:=pl.isList;exact vX i
  refine call_reversed_list pl.isList ?_;refine Calls.spliced_nil ?_;have hsz:(s1.heap.push (revObj l ((its.toArray.size:Int) - 1))).objs.size=s1.heap.objs.size+1:=size_push' _ _;refine sR (c.ok.hd O) (vS D) ⟨_,vY _ rr,rr,rr⟩ (pl.isList.push _) (by rw[vH,<-t.length];exact C) λs' E F hk G m hS J=>?_;have k1:=λb o i=>hk b o (vS (vX i)) (vZ _ i);have hp:=c.hok.fresh (le_succ _);rw[hsz]at hS |-;have L:=nU (s1:={ s1 with drawn:=s'.drawn }) c (λ_ _ e=>e) rr rr;have u:=Ext.laid (o:=.lst ws.reverse) M.nh hp;obtain⟨h',g',d',N,P⟩:=s';cases G;cases m
  have g:=(IsL.rev m1).mono u.bn;refine⟨.ref (s1.heap.objs.size+1),_,L.laid (t':=N) k1 (le_succ _) (show bj X.prog X.w _ h' _ (.lst ws.reverse)from ⟨by simp_all,E.toList,F,?_,hS⟩),rr,dJ _ _ _ (M.trans u) (.lst (fF.of au) g) λ_=>⟨_,_,_,rr,rr,M.hh.free hp,au,g⟩⟩;rw[J];exact aL.rev t
end
@[simp] noncomputable def inT (j:Nat):D×Bool->Option LD
 | (.tup ds,true)=>match ds[j]? with
  |some (.lst es)=>some es
  |_=>none
 |_=>none
@[simp] def gTA (i:Nat)(f:FE)(M:FT)(g1:FS)(c2:FT)(j:Nat)(fe:FE)(h2:FS):FS:=λρ=>(f (kZ ρ)).bind λx=>match M (ρ.set i (some (x.1,false))) with
 |some true=>match g1 (ρ.set i (some (x.1,false))) with
  |some (.rt d b)=>some (.rt d b)
  |_=>none
 |some false=>match c2 (ρ.set i (some (x.1,false))) with
  |some false=>some (.nx (ρ.set i (some (x.1,false))))
  |some true=>(inT j x).bind λes=>(fe (ρ.set i (some (x.1,false)))).bind λy=>if i<ρ.length/\es.length<sizeLine then h2 (ρ.set i none)else none
  |none=>none
 |none=>none
end DL
namespace DL
open PySem PySem.Spec PySem.W PyProof.Rows L2
@[simp] def mJ:D->OB
 |.lst ds=>(oK ds).bind λss=>if ss.length<4000 then some (.int ((dG ss).length:Nat),false)else none
 |_=>none
section
variable {X:Cx}{e:Expr}{pos pos2 p p2:Pos}
def sU:bu X (.builtin "len") (λxs H Q=>∃S M,xs=[.ref S]/\H S=some (qu (PySem.intKind X.prog X.w) CM S M)/\Q (.int (M.length:Nat)) H):=by
 intro af s σ H xs us Q I r h;obtain⟨S,M,rfl,hS,q⟩:=h;obtain⟨u,rfl,a⟩:=eB r;cases a
 have b:ib (PySem.intKind X.prog X.w) CM s.heap S M:=(I.hok S _ hS).1;refine cX λG g=>?_;obtain⟨o,es,d,t,ho,O,hd,f,hp,nd,hb,hf,_⟩:=b;apply g;have sz:es.size=M.length:=by rw[<-hp.length_eq,vI,vG]
 have c:M.length<4096:=hb;exact PySem.call_len_set ho O hd hf (by rw[sz];lia) ⟨.int (M.length:Nat),H,I.tok _,⟨_,by rw[sz]⟩,q⟩
def B1 (hc:X.calm=true)(m1:X.mg "len" = none)(m2:X.mg "set" = none)(he:JE X e f)(g1:Gl X "len")(c:Gl X "set")
  (h1:starEach [e] X.env=(false,eval e X.env)::starEach [] X.env):JE X (.Call (.Name "len" p) [.Call (.Name "set" p2) [e] [] pos2] [] pos) (f1 mJ f):=by
 refine PE.to (mm sU g1 m1 HR (cC (km (jC koI hc) c m2 Ix (cC he dL h1) (he:=h1)) dL)) λσ H Q q=>?_;refine cX λG K=>?_;obtain⟨B,ρ,d',bb,d,r,M,q⟩:=q;refine eX M λa ex M=>?_;apply K;refine⟨B,ρ,a.1,a.2,d,r,ex,λv k N1 O i1 l=>?_⟩;obtain⟨xd,m⟩:=a;cases i1<;>try (simp[mJ]at M;done)
 rename_i n vs ds h hl;simp only[mJ]at M;refine eX M λss g M=>?_;split at M
 .rename_i i;cases M
  refine⟨_,_,ss,rr,O.nh.seq h,λits j=>have h:=C9 j hl g;⟨IntsAre.length h,IntsAre.at h⟩,i,λS hS=>⟨S,_,rr,au,?_⟩⟩;have b:=Ext.laid (o:=qu (PySem.intKind X.prog X.w) CM S (dG ss)) O.nh hS;exact(q.into (O.trans b)).one (O.trans b).nh (.int _)
 .cases M
end
end DL
namespace DL
open PySem PySem.Spec PyProof.Rows L2
structure FnD (P:Program)(w:World)(K:Frag)(mg:Str->Option Value)(base:Heap)(k:Nat)(x:Str)(f:List D->OB):Prop where
 ex:∃(ad:Addr)(fd:FuncData)(ps:List Str),sk P w K mg base A2 k ad fd ps (Lp K f)/\mg x=some (.ref ad)/\PySem.W.keepIn K (.ref ad)=true/\oD K fd ps []/\oD K fd ps [.none]
end DL
namespace DL
open PySem PySem.Spec PySem.W PyProof.Rows L2
def RJ (ns:LI):Prop:=∀i∈ns,Builtin.Int.intBits i<=1048576
abbrev VB:D->D->OB:=AQ (λi j=>decide (Builtin.Int.intBits i<=2097152/\Builtin.Int.intBits j<=2097152)) λi j=>.int (i*j)
def RK {X:Cx}:c8 X (binaryOp .Mult) (rD X.K VB):=m4 (Um λ_ _ _ _ _ _ _ hc q=>mul_int q (IntMulOk.of_le hc.1 hc.2 H9)) (λ_ _ h=>xG h) λ_ _ _=>.int _
def RM {ns:LI}(h:WData.layableAll [WData.list (ns.map WData.int)]=true):RJ ns:=λi hi=>by
 have h1:=layableW_arg h _ (mem_singleton.mpr rr);have h2:=layableW_item h1 _ (uS ⟨i,hi,rr⟩);simp_all[WData.layable,WData.weight,Builtin.Int.intBits]
def walkB {l:PySem.W.OpenLaw}{q:Program}{O:LS}{I:SV->Heap->Prop}{D:World->Heap->Prop}{d:DefRec}{K:Params->Frag}{k:Nat}{x:Str}{f:LD->OB}{L:List (Str×Option (Addr×Addr))}(hn:l.most=some 63)(J:d.params.defaults=[])(hr:dr k callerA)
  (Q:∀(w:World)(h:Heap),D w h->(K w.params).In h) (n:∀w:World,pK (K w.params) L) (R:(L.all λp=>p.2.isNone || ((recsOf q).find? λe=>e.name == p.1).isSome)=true)
  (F:∀(w:World)(mg:SV)(fa:Addr)(h:Heap),(K w.params).In h->h.Ns mainGlobals mg->mg d.name=some (.ref fa) ->
   ∃fd:FuncData,(∀(s:Shared)(u:Value),BindsTo s fd ⟨[u],[]⟩ [(x,u)])/\∀base:Heap,(K w.params).In base->base.Ns mainGlobals mg->sk l.prog w (K w.params) mg base A2 k fa fd [x] (Lp (K w.params) f))
  (S:∀ns:LI,ns.length<=63->RJ ns->∃b,f [.lst (ns.map .int)]=some (.bl true,b)):PySem.W.WalkO q O I D l.row.toRowW d [] (λf vs=>PySem.call f vs):=by
 intro w s₀ E mg mb G Y fa o pm cd doc dV kV ho hd GD U t V args vals as i j X y Z;obtain⟨a,vs,ns,rfl,rfl,z,Yi,M⟩:=Att.Fh hn i y;have A:=Q w _ Y;obtain⟨fd,hb,hF⟩:=F w mg fa _ A G.T.g t;refine enter_call (codeAny_mono (Fy (wt L) (λb u e=>?_) (n w).none A G.T.g G.T.b G.T.builtins G.T.nolimit G.T.bmain V z Yi (vR M H9) hr hF hb λH hH hS=>?_) λr s' hq=>?_)
 .obtain⟨p,hp,e2⟩:=mem_filterMap.mp (jB e);obtain⟨⟨c,P⟩,e3,e4⟩:=oY e2;cases e4
  have m:=uR R p hp;rw[e3]at m;obtain⟨r,B⟩:=uU m;have C:PySem.W.tabIn (K w.params) p.1=some (c,P):=by
   rw[(n w).names]at hp;simp_all<;>lia
  obtain⟨h1,h2⟩:=PySem.W.tab_of G.T A B C;exact⟨h2,(h1.tab h2).isCodeTable⟩
 .obtain⟨b,e⟩:=S ns M (RM j);exact⟨H,_,_,b,⟨.refl H,(n w).tb hH⟩,.cons (.lst hS (.flat rr)) .nil,e,λv H' N x' i' _=>by cases i';rfl⟩
 .obtain⟨rfl,h2,h3,h4⟩:=hq;exact⟨.inl ⟨.bool _,.bool _,[],rr,λ_=>rr,.bool _,Att.Fi l _,λ_=>⟨List.Pairwise.nil,λ_ hm=>(nomatch hm)⟩⟩,h2,h3,h4⟩
structure OneK (α:Type)[DecidableEq α] where
 v:α->V
 ev:Value->α->Bool
 as:List D->Option (List α)
 rel:∀ {a:α}{u:Value},aD (v a) u->∀b,ev u b=decide (a=b)
 eq:∀ {A:Around}{s:Shared}{a b:α}{u u':Value},aD (v a) u->aD (v b) u'->PySem.SeqAt.EqAt A s u u' (ev u b)
 is:∀ {K:Frag}{B:Hp}{ws:List V}{ds:List D}{l:List α},IsL K B ws ds->as ds=some l->ws=l.map v
noncomputable def evS:Value->Str->Bool
 |.str a _,b=>decide (a=b)
 |_,_=>false
theorem Jp {K:Frag}{B:Hp}:∀ {ws:LV}{ds:LD}{l:LS},IsL K B ws ds->eC ds=some l->ws=l.map V.str
 |_,_,_,.nil,e=>by cases e;rfl
 |_,_,_,.cons i M,e=>by
  refine eX e λz e1 e=>?_;obtain⟨r,e2,rfl⟩:=oY e;rw[Jp M e2];cases i<;>try (cases e1;done)
  simp_all
def Z3:OneK Str:=⟨V.str,evS,eC,λ{a u} ⟨t,e⟩ b=>by subst e;rfl,λ{A s a b u u'} ⟨t,e⟩ ⟨t',M⟩=>by
 subst e;subst M;have:=PySem.SeqAt.EqAt.str_str (A:=A) (s:=s) a t b t';rw[show(a == b)=decide (a=b)from rr]at this;exact this,Jp⟩
section
variable {X:Cx}{α:Type}[DecidableEq α] (k:OneK α)
noncomputable def oj (l:List α)(b:α):Nat:=l.findIdx λa=>decide (a=b)
def Z4 (K:Frag):V->LV->Hp->VK->Prop:=λx vs H Q=>∃(l:Addr)(as:List α)(b:α),x=.ref l/\vs=[k.v b]/\fF K H l (as.map k.v)/\oj as b<as.length/\Q (.int (oj as b:Nat)) H
theorem Nk {vs:LV}{us:LU}(r:aL vs us):∀(i:Nat)(h:i<us.length),∃v,vs[i]? = some v/\aD v us[i]:=by
 induction r with
 |nil=>intro i h;cases h
 |cons r1 O M=>
  intro i h;cases i with
  |zero=>exact⟨_,rr,r1⟩
  |succ i=>exact M i _
theorem RN:YW X "list.index" (Z4 k X.K):=by
 intro af s σ H x vs v us Q I c rv h;obtain⟨l,as,b,rfl,rfl,d,hk,q⟩:=h;cases c
 obtain⟨u,rfl,ru⟩:=rv.one;refine cX λG W=>?_;obtain⟨its,r,⟨o,m,e,hc,a,hd⟩,z⟩:=I.list d;apply W;have hl:=r.length;rw[vI]at hl z;have at':∀(i:Nat)(hi:i<its.length),∃M:i<as.length,aD (k.v as[i]) its[i]:=λi hi=>by
  obtain⟨v,e1,e2⟩:=Nk r i hi;have M:i<as.length:=N9
  rw[vA,vU M]at e1;cases e1
  exact⟨M,e2⟩
 obtain⟨oc,od,f,nJ⟩:=o;subst hc a hd;have hz:sizeLine<2 ^ 63 - 1:=H9
 have hj:oj as b<its.length:=N9
 refine call_meets PySem.F.slot_list_index ⟨_,e,rr⟩ PySem.F.entry_list_index (PySem.F.args_list_index_2 _ _)
  (PySem.SeqAt.list_indexAt l its.toArray m none nJ u (λy=>k.ev y b) (oj as b) (by simpa using hj) N9 ?_ (λi M g=>?_)) ⟨e,λy hy=>?_,?_⟩
 .obtain⟨_,O⟩:=at' _ hj;simp only[List.getElem_toArray];rw[k.rel O];exact List.findIdx_getElem (w:=hk)
 .obtain⟨_,O⟩:=at' i (by simpa using M);simp only[List.getElem_toArray];rw[k.rel O];have:=List.not_of_lt_findIdx (xs:=as) g;simpa using this
 .obtain⟨i,M,rfl⟩:=List.mem_iff_getElem.mp (show y∈its by simpa using hy);obtain⟨_,O⟩:=at' i M;exact k.eq O ru
 .exact⟨.int (oj as b:Nat),H,I.tok _,⟨_,rr⟩,q⟩
@[simp] def RO:D->D->OB
 |.lst ds,y=>(k.as ds).bind λl=>(k.as [y]).bind λc=>match c with
  |[b]=>if oj l b<l.length then some (.int (oj l b:Nat),false)else none
  |_=>none
 |_,_=>none
variable {a e:Expr}
theorem RP {cb bA:Pos}{fa f:FE}(ha:JE X a fa)(he:JE X e f)(O:attributeBase a "index" X.env (eval a X.env)=eval a X.env)
  (m:((backTo bA (starEach [e] X.env)).all (λx=>!x.1) && (backToKw bA (keywordEach [] X.env)).all (λx=>x.1.isSome)
   && decide ([e].length+([]:List Keyword).length+(if([]:List Keyword).isEmpty then 0 else 1)<30))=true)
  (n:(cb.endLine == bA.line)=true) (hs:starEach [e] X.env=[(false,eval e X.env)]):JE X (.Call (.Attribute a "index" cb) [e] [] bA) (f2 (RO k) fa f):=by
 refine PE.to (xP plainAttrs_list PySem.F.slot_list_index PySem.F.type_list_index (RN k) ha (cC he dL hs) O m n hs rr) λσ H Q q=>?_;refine cX λG K=>?_;obtain⟨B,ρ,d,bb,o,r,M,dJ⟩:=q;obtain⟨⟨xd,u⟩,ex,M⟩:=oX M;obtain⟨⟨y,z⟩,p,M⟩:=oX M;apply K;clear K;cases xd<;>try (cases M)
 refine eX M λas en M=>?_;refine eX M λc s M=>?_;split at M
 .rename_i b;split at M
  .rename_i hk;cases M
   refine⟨B,ρ,_,_,o,r,ex,λv A N1 i i1 f1=>?_⟩;cases i1
   rename_i l ws h m1;have t:=k.is m1 en;subst t;refine⟨.inl ⟨rr,_,i.nh.seq h⟩,N1,ρ,_,_,i.nh,r.mono i.bn,p,λw H2 N2 j i2 _=>?_⟩;have g:=i.trans j;exact⟨l,as,b,rr,k.is (.cons i2 .nil) s,j.nh.seq (j.bn.seq h),hk,(dJ.into g).one g.nh (.int _)⟩
  simp_all
 simp_all
end
end DL
namespace DL
open PySem PySem.Spec PyProof.Rows L2
structure Gq where
 fs:List (Str×Nat×(List D->OB))
 cs:List (Str×D)
 ds:List (Str×List (Str×D))
 no:List Str
 ls:List Str
structure Gq.Ok (g:Gq)(P:Program)(w:World)(K:Frag)(mg:Str->Option Value)(base:Heap):Prop where
 hx:∃h,K.In h/\h.Ns mainGlobals mg
 fs:∀t∈g.fs,Fn P w K mg base t.2.1 t.1 t.2.2
 cs:∀t∈g.cs,KC K mg t.1 t.2
 ds:∀t∈g.ds,KD w K mg t.1 t.2
 no:∀x∈g.no,mg x=none
 ls:∀x∈g.ls,yK K x
structure Sq where
 g:Gq
 N:List Str
 sc:Scope
 cl:List Str
 k:Nat
 fn:Bool
 q:Option Str
structure Yq (S:Sq) where
 prog:Program
 w:World
 K:Frag
 mg:Str->Option Value
 base:Heap
 A:Around
 s:Shared
 H:Hp
 env:PySem.Env
 outer:List PySem.Env
 stack:List PySem.Env
 ex:List Addr
 rm:dr S.k A
 cl:∀x∈S.cl,(env.cells.lookup x).isSome
 nd:S.N.Nodup
 ok:S.g.Ok prog w K mg base
 ql:∀x,S.q=some x->env.qual=x ++ ".<locals>."/\∀c P,PySem.W.tabIn K x=some (c,P)->env.code=.ref c
noncomputable abbrev bG (S:Sq)(d:Yq S):Cx:=⟨d.prog,d.w,d.K,d.mg,d.base,d.A,S.N,d.s,d.H,{ d.env with scope:=S.sc },d.outer,d.stack,d.ex,λ_=>S.fn,true,[],λ_ _=>False⟩
abbrev uh (S:Sq)(e:Expr)(f:FE):Prop:=∀d:Yq S,JE (bG S d) e f
abbrev yT (S:Sq)(e:Expr)(f:FT):Prop:=∀d:Yq S,JT (bG S d) e f
abbrev Pc (S:Sq)(e:Expr)(f:FT):Prop:=∀d:Yq S,JW (bG S d) e f
abbrev Jq (S:Sq)(e:Stmt)(f:FS):Prop:=∀d:Yq S,JS (bG S d) e f
abbrev Pd (S:Sq)(e:List Stmt)(f:FS):Prop:=∀d:Yq S,xY (bG S d) e f
structure Oj {α:Type}(J:α->Prop) where
 f:α
 ok:Bool
 p:ok->J f
abbrev b9 {α:Type}(J:α->Prop):=LN->Option (Oj J×LN)
section
variable {α β γ δ:Type}{J J':α->Prop}{J1:β->Prop}{J2:γ->Prop}{J3:δ->Prop}
noncomputable def bW (k:Nat->b9 J):b9 J
 |[]=>none
 |i::h=>k i h
def CO:Nat->(LN->b9 J)->b9 J
 |0,k=>k []
 |n+1,k=>bW λi=>CO n λl=>k (i::l)
noncomputable def cy:(l:List β)->Nat->((a:β)->a∈l->b9 J)->b9 J
 |[],_,_=>λ_=>none
 |a::_,0,k=>k a mX
 |_::l,i+1,k=>cy l i λb h=>k b (mZ _ h)
def CP {a b:Bool}(h:(a && b)=true):a:=by simp_all
def CQ {a b:Bool}(h:(a && b)=true):b:=by simp_all
noncomputable def dR (c:Prop)[Decidable c](f:α)(k:c->J f):b9 J:=λh=>some (⟨f,decide c,λe=>k (xG e)⟩,h)
noncomputable def oR (k:∀x,J x->J' x)(m:b9 J):b9 J':=λh=>match m h with
 |some (⟨f,o,p⟩,h)=>some (⟨f,o,λe=>k f (p e)⟩,h)
 |none=>none
noncomputable def bX (c:Prop)[Decidable c](g:α->β)(k:c->∀x,J x->J1 (g x))(m:b9 J):b9 J1:=λh=>match m h with
 |some (⟨f,o,p⟩,h)=>some (⟨g f,decide c && o,λe=>k (xG (CP e)) f (p (CQ e))⟩,h)
 |none=>none
def cc (c:Prop)[Decidable c](g:α->β->γ)(k:c->∀x y,J x->J1 y->J2 (g x y))(m:b9 J)(n:b9 J1):b9 J2:=λh=>match m h with
 |some (⟨f,o,p⟩,h)=>bX (c/\o) (g f) (λe y=>k e.1 f y (p e.2)) n h
 |none=>none
def ui (c:Prop)[Decidable c](g:α->β->γ->δ)(k:c->∀x y z,J x->J1 y->J2 z->J3 (g x y z))(m:b9 J)(n:b9 J1)(o:b9 J2):b9 J3:=λh=>match m h with
 |some (⟨f,b,p⟩,h)=>cc (c/\b) (g f) (λe y z=>k e.1 f y z (p e.2)) n o h
 |none=>none
end
abbrev oS (S:Sq)(i:Nat)(x:Str):Prop:=S.N[i]? = some x/\(S.sc.names.lookup x=some .local\/S.sc.names.lookup x=some .cell\/S.sc.names.lookup x=some .free)/\(x == ("__debug__" : Str))=false/\(x == ("__classdict__" : Str))=false
abbrev gQ (S:Sq)(i:Nat)(x:Str):Prop:=S.N[i]? = some x/\(S.sc.names.lookup x=some .local\/S.sc.names.lookup x=some .cell)/\(S.fn\/S.sc.names.lookup x=some .local)
abbrev qK (S:Sq)(x y:Str):Prop:=x=y/\S.sc.names.lookup x=some .globalImplicit/\(x == ("__debug__" : Str))=false
abbrev ga (S:Sq)(x y:Str):Prop:=qK S x y/\x∈S.g.no/\x ≠ "__name__"
noncomputable def bq:Expr->Bool
 |.Starred .. | .Slice .. | .Set .. | .SetComp .. | .DictComp ..=>false
 |_=>true
def qL:Expr->Bool
 |.ListComp ..=>false
 |e=>bq e
noncomputable def Pe:Expr->Bool
 |.UnaryOp .Not .. | .BoolOp .. | .IfExp .. | .Compare ..=>false
 |_=>true
noncomputable def uj:Expr->Bool
 |.Call _ [] ..=>false
 |_=>true
section
variable {e:Expr}{es:QD}{env:PySem.Env}{p:Pos}
def aC (h:bq e):starEach (e::es) env=(false,eval e env)::starEach es env:=by cases e<;>first|rfl|cases h
theorem om:∀ {es:QD},(∀e∈es,bq e)->(backTo p (starEach es env)).any (·.1)=false
 |[],_=>rr
 |e::es,h=>by
  have:=om (es:=es) λa m=>h a (by simp[m]);rw[aC (h e X9)];simp_all [backTo]
def jI (h:bq e)(x:Value):foldedSetIterable e env x=pure x:=by cases e<;>first|rfl|cases h
def jJ {op:CmpOp}(h:bq e):behindInMarks op e=false:=by cases e<;>first|rfl|cases h
def mK (h:bq e):mo e:=by cases e<;>first|(intro _ _;rfl)|cases h
def iI {t:Expr}{n:Nat}(h:qL e):swapsWith e (some t) n env=pure false:=by cases e<;>first|rfl|cases h
def iJ {a:Str}{w:Sem Value}(h:uj e):attributeBase e a env w=w:=by
 cases e with
 |Call f as=>cases as with
  |nil=>cases h
  |cons b l=>cases f<;>rfl
 |_=>rfl
def fO (h:bq e):((backTo p (starEach [e] env)).all (λx=>!x.1) && (backToKw p (keywordEach [] env)).all (λx=>x.1.isSome) && decide (([e]:QD).length+([]:List Keyword).length+(if([]:List Keyword).isEmpty then 0 else 1)<30))=true:=by
 rw[aC h];rfl
def Jr (h:Pe e)(M:Sem Value):isTrue e env M=(do let v <-M;standAt e.pos;holding [v] (truthy v)):=by
 cases e with
 |UnaryOp op=>cases op<;>first|rfl|cases h
 |_=>first|rfl|cases h
end
structure Bq where
 op:Operator
 f:D->D->OB
 p:∀ {X:Cx},c8 X (binaryOp op) (rD X.K f)
structure Cq where
 op:CmpOp
 f:D->D->OB
 p:∀ {X:Cx},X.A.units+40<cLine->c8 X (compareOp op) (rD X.K f)
structure Tq where
 x:Str
 n:String
 b:bootBuiltins x=some (.type n)
structure Fq where
 x:Str
 f:List D->OB
 c:∀ {X:Cx}{e:Expr}{es:List Expr}{fa:FA}{p q:Pos},X.calm->X.mg x=none->JA X (e::es) fa->Gl X x->x ≠ "__name__"->(x == ("__debug__" : Str))=false->starEach (e::es) X.env=(false,eval e X.env)::starEach es X.env->(backTo q (starEach es X.env)).any (·.1)=false->JE X (.Call (.Name x p) (e::es) [] q) (fA f fa)
noncomputable def qM {x:Str}{i:String}{f:LD->OB}(b:bootBuiltins x=some (.builtin i))(c:∀ {X:Cx},X.calm->bu X (.builtin i) (A3 X.K f)):Fq:=⟨x,f,λh m a g n d s t=>HL (c h) m b a g n d s t⟩
noncomputable def CS {x:Str}{i:String}{f:LD->OB}(b:bootBuiltins x=some (.type i))(c:∀ {X:Cx},X.calm->bu X (.type i) (A3 X.K f)):Fq:=⟨x,f,λh m a g n d s t=>Fu (c h) m b a g n d s t⟩
structure Uq where
 x:Str
 y:Str
 f:D->OB
 p:∀ {X:Cx}{e:Expr}{g:FE}{p p2 q q2:Pos},X.calm->X.mg x=none->X.mg y=none->JE X e g->Gl X x->Gl X y->starEach [e] X.env=[(false,eval e X.env)]->JE X (.Call (.Name x p) [.Call (.Name y p2) [e] [] q2] [] q) (f1 f g)
structure Mq where
 n:Str
 f:D->D->OB
 p:∀ {X:Cx}{o e:Expr}{fo fe:FE}{ap cp:Pos},X.A.units+1<cLine->JE X o fo->JE X e fe->uj o->bq e->ap.endLine == cp.line->JE X (.Call (.Attribute o n ap) [e] [] cp) (f2 f fo fe)
def RQ:List Bq:=[⟨_,_,UN⟩,⟨_,_,Ri⟩,⟨_,_,UR⟩,⟨_,_,Rb⟩,⟨_,_,UP⟩,⟨_,_,RK⟩,⟨_,_,QS⟩,⟨_,_,UQ⟩]
def B3:List Cq:=[⟨_,_,λ_=>UZ⟩,⟨_,_,Zp⟩,⟨_,_,λ_=>Zr⟩,⟨_,_,λ_=>UY⟩,⟨_,_,λ_=>Vb⟩,⟨_,_,Zo⟩,⟨_,_,λ_=>M4⟩,⟨_,_,λ_=>Zj⟩,⟨_,_,λ_=>Zi⟩,⟨_,_,λ_=>HQ⟩,⟨_,_,Vy⟩,⟨_,_,Vz⟩]
noncomputable def RS:List Tq:=[⟨_,_,OO⟩,⟨_,_,Rc⟩,⟨_,_,Ct⟩,⟨_,_,Ve⟩,⟨_,_,wn⟩]
def RT:List Fq:=[qM m7 λ_=>wo,qM HR λ_=>UV,qM Vd λh=>Vl h,qM m7 λ_=>FQ,CS Ct λ_=>MD,CS RC λh=>RD h,qM Vn λh=>Vm h,qM yA λh=>Ge h,CS wn λ_=>Rx,qM Vc λh=>Vg h,CS OO λ_=>Vt]
def RU:List Uq:=[⟨_,_,_,λa b c d e f g=>Bf a b c d e f g⟩,⟨_,_,_,λa b c d e f g=>FJ a b c d e f g⟩,⟨_,_,_,λa b c d e f g=>Bz a b c d e f g rr⟩,⟨_,_,_,λa b c d e f g=>B1 a b c d e f g⟩]
def RV:List Mq:=[⟨_,_,λhu x y a b c=>IP hu x y ⟨iJ a,fO b,c,by rw[aC b];rfl⟩⟩,⟨_,_,λ_ x y a b c=>Ro PySem.F.slot_str_join PySem.F.type_str_join Rr Ib x y (iJ a) (fO b) c (aC b)⟩,⟨_,_,λ_ x y a b c=>RP Z3 x y (iJ a) (fO b) c (aC b)⟩]
structure Rj where
 E:∀S e,b9 (uh S e)
 T:∀S e,b9 (yT S e)
 W:∀S e,b9 (Pc S e)
noncomputable def Js (o sc:Scope):Scope:={ sc with names:=sc.names.map λ(n,k)=>if(k == .free && o.kind == .function && o.names.lookup n == some .cell)then (n,.cell)else (n,k) }
noncomputable def Jt (sc:Scope):LS:=sc.names.filterMap λy=>if y.2=.free then some y.1 else none
def wM (S:Sq)(N:LS)(sc:Scope):Sq:=⟨S.g,N,Js S.sc sc,Jt sc,S.k,false,S.q⟩
abbrev VC (S:Sq)(N:LS)(sc M:Scope)(j i:Nat):Prop:=∃x∈N[j]?,S.N[i]? = some x/\(S.sc.names.lookup x=some .cell\/S.sc.names.lookup x=some .free)/\(M.names.lookup x=some .cell\/M.names.lookup x=some .free)/\(x,NameKind.free)∈sc.names/\x∈S.cl
noncomputable def qN (S:Sq)(N:LS)(sc M:Scope):Nat->LN->Bool
 |j,[]=>N.length=j
 |j,i::r=>VC S N sc M j i && qN S N sc M (j+1) r
section
variable {S:Sq}{N:LS}{sc:Scope}
theorem oq (d:Yq S):∀ {cap:LN}{j:Nat},qN S N sc (Js S.sc sc) j cap->mh (bG S d) N sc (dm sc.names d.env.cells []) j cap
 |[],_,h=>.nil (xG h)
 |_::_,_,h=>let ⟨_,e,a,b,c,f,g⟩:=xG (CP h);.cons e a b c (p4 f (d.cl _ g)) (oq d (CQ h))
abbrev Ju (S:Sq)(N:LS)(sc:Scope):Prop:=N.Nodup/\(∀y∈sc.names,y.2≠.cell)/\sc.kind=.function/\(∀y∈sc.names,y.2=.local->sc.names.lookup y.1=some .local)/\∀y∈sc.names,y.2=.free->y.1∈S.cl
def ot (d:Yq S)(h:∀z∈sc.names,z.2=.free->z.1∈S.cl):(sc.names.all λy=>!(y.2 == NameKind.free) || (d.env.cells.lookup y.1).isSome)=true:=by
 rw[all_eq_true];intro y hy;cases hk:y.2 == NameKind.free with
 |false=>rfl
 |true=>exact d.cl _ (h y hy (by simpa using hk))
def yU (d:Yq S)(h:∀z∈sc.names,z.2=.free->z.1∈S.cl):∀x∈Jt sc,((dm sc.names d.env.cells []).lookup x).isSome:=λx hx=>by
 obtain⟨⟨M,k⟩,hy,e⟩:=mem_filterMap.mp hx;split at e
 .rename_i hk;cases e
  cases hk
  rw[p4 hy (d.cl _ (h _ hy rr))];exact d.cl _ (h _ hy rr)
 .cases e
def Yq.inn (d:Yq S)(h:Ju S N sc)(C:Addr)(s:Shared)(H:Hp)(fp:List Addr):Yq (wM S N sc):=⟨d.prog,d.w,d.K,d.mg,d.base,d.A,s,H,compEnvC sc (dm sc.names d.env.cells []) C { d.env with scope:=S.sc },d.stack,d.stack,fp,d.rm,yU d h.2.2.2.2,h.1,d.ok,d.ql⟩
end
section
variable (r:Rj) (S:Sq)
def qO:(es:QD)->b9 λf=>∀d,JA (bG S d) es f
 |[]=>dR True ay λ_ _=>l5
 |e::es=>cc (bq e) ak (λh _ _ x y d=>eV (x d) (y d) (aC h)) (r.E S e) (qO es)
def Pf:(e:Option Expr)->b9 λf=>∀d,JO (bG S d) e f
 |none=>dR True oG λ_ _=>M0
 |some e=>bX True m6 (λ_ _ x d=>M2 (x d)) (r.E S e)
def Jv (i:Nat)(p:Pos):(a:Expr)->(ops:List CmpOp)->(bs:QD)->b9 λf=>uh S (.Compare a ops bs p) f/\yT S (.Compare a ops bs p) (bJ f)
 |a,[op],[b]=>cy B3 i λ⟨M,f,q⟩ _=>cc (op=M/\bq b) (f2 f) (λ⟨h,k⟩ _ _ x y=>by
   subst h;exact⟨λd=>QF (q (la d.rm)) (x d) (y d) (jJ k),λd=>QG (q (la d.rm)) (x d) (y d) (jJ k)⟩) (r.E S a) (r.E S b)
 |a,[op,M],[b,c]=>bW λj=>cy B3 i λ⟨e,f,q⟩ _=>cy B3 j λ⟨l,g,O⟩ _=>ui (op=e/\M=l/\bq c) (j8 f g) (λ⟨h,h',k⟩ _ _ _ x y z=>by
   subst h h';have hm:lastMarks [op,M] [b,c]=false:=jJ k;exact⟨λd=>HG (q (la d.rm)) (O (la d.rm)) (x d) (y d) (z d) hm,λd=>HH (q (la d.rm)) (O (la d.rm)) (x d) (y d) (z d) hm⟩) (r.E S a) (r.E S b) (r.E S c)
 |_,_,_=>λ_=>none
def Pg (tg it:Expr):b9 λf=>∀d,JI (bG S d) tg it f:=bW λi=>match i,tg,it with
  |0,_,e=>bX True df (λ_ _ x d=>Rn (x d)) (r.E S e)
  |2,_,.Call (.Name x _) [a] [] _=>bX (ga S x "range"/\bq a) jA (λ⟨⟨⟨h,g⟩,m⟩,n⟩ _ x d=>by subst h;exact HW (d.ok.no _ m.1) (x d) g.1 (aC n)) (r.E S a)
  |3,.Tuple ..,.Call (.Name x _) [a] [] _=>bX (ga S x "enumerate"/\bq a) Im (λ⟨⟨⟨h,g⟩,m⟩,n⟩ _ x d=>by subst h;exact MG (d.ok.no _ m.1) (x d) g.1 (aC n)) (r.E S a)
  |4,.Tuple ..,.Call (.Name x _) [a,b] [] _=>cc (ga S x "zip"/\bq a/\bq b) F3 (λ⟨⟨⟨h,g⟩,m⟩,n,k⟩ _ _ x y d=>by subst h;exact Rv (d.ok.no _ m.1) (x d) (y d) g.1 (by rw[aC n,aC k];rfl) (aC k)) (r.E S a) (r.E S b)
  |5,_,.Call (.Attribute e n ap) [] [] cp=>bX (n = "values"/\uj e/\ap.endLine == cp.line) wK (λ⟨h,n,l⟩ _ x d=>by subst h;exact Nd (x d) (iJ n) l) (r.E S e)
  |6,.Tuple ..,.Call (.Attribute e n ap) [] [] cp=>bX (n = "items"/\uj e/\ap.endLine == cp.line) CK (λ⟨h,n,l⟩ _ x d=>by subst h;exact Jl (x d) (iJ n) l) (r.E S e)
  |_,_,_=>λ_=>none
def VD:(es:QD)->b9 λf=>∀d,JC (bG S d) es f
 |[]=>dR True ya λ_ _=>Q8
 |[e]=>oR (λ_ x d=>Q9 (x d)) (r.T S e)
 |_=>λ_=>none
theorem CT (d:Yq S){i:Nat}{x:Str}{p:Pos}(h:gQ S i x):PG (bG S d) (.Name x p) (i7 i):=pgV i d.nd h.1 h.2.1 h.2.2
theorem Ph (d:Yq S){i j k:Nat}{x y:Str}{p q s:Pos}(h:gQ S i x)(g:gQ S j y):PG (bG S d) (.Tuple [.Name x p,.Name y q] k s) (Hb d.K 2 (l7 [i,j])):=A6 rr (iA (CT S d h) (iA (CT S d g) vk))
def VE:(tg:Expr)->Option ((N:LS) ×' (n:Nat) ×' (M:FG) ×' ∀S:Sq,(∀i (h:i<N.length),gQ S i N[i])->∃t:Frag->TG,(∀d:Yq S,PG (bG S d) tg (t d.K))/\∀K,Mn K n M (t K))
 |.Name x _=>some ⟨[x],1,fz 0,λ_ h=>⟨λ_=>i7 0,λd=>CT _ d (h 0 X9),λ_=>pY H9⟩⟩
 |.Tuple [.Name x _,.Name y _] _ _=>some ⟨[x,y],2,Ic [0,1],λ_ h=>⟨λK=>Hb K 2 (l7 [0,1]),λd=>Ph _ d (h 0 X9) (h 1 X9),λ_=>Ig H9⟩⟩
 |_=>none
abbrev VF (S:Sq)(e:Expr)(f:FE):Prop:=uh S e f/\∀y M sp i,gQ S i y->(∀d:Yq S,swapsWith e (some (.Name y M)) sp.line (bG S d).env=pure true)->S.sc.names.lookup y=some .local->Jq S (.Assign [.Name y M] e sp) (dN i f)
def Jw (e tg it:Expr)(f:QD)(g:Int)(sc:Scope)(p:Pos):b9 (VF S (.ListComp e [⟨tg,it,f,g⟩] sc p)):=bW λn=>CO n λcap=>match VE tg with
 |none=>λ_=>none
 |some ⟨N,n,j,q⟩=>(λM h=>match Pg r S tg it h with
  |none=>none
  |some (⟨fi,o,a⟩,h)=>cc (g=0/\bq it/\o/\Ju S M sc/\qN S M sc (Js S.sc sc) n cap/\∀i (h:i<N.length),gQ (wM S M sc) i N[i]) (j7 fi n cap j) (λ⟨h,hn,o,O,hc,k⟩ _ _ b c=>by
    subst h;obtain⟨t,pg,tg⟩:=q _ k;exact⟨λd=>V7 _ (a o d) (b (d.inn O _ _ _ _)) (c (d.inn O _ _ _ _)) (tg _) (pg (d.inn O _ _ _ _)) (oq d hc) (Nf O.2.1 O.2.2.1 O.2.2.2.1 (ot d O.2.2.2.2)) rr λx=>jI hn x,
     λ_ _ _ _ hy hs hl d=>V8 _ d.nd (a o d) (b (d.inn O _ _ _ _)) (c (d.inn O _ _ _ _)) (tg _) (pg (d.inn O _ _ _ _)) (oq d hc) hy.1 hl (hs d) (Nf O.2.1 O.2.2.1 O.2.2.2.1 (ot d O.2.2.2.2)) rr λx=>jI hn x⟩) (VD r (wM S M sc) f) (r.E (wM S M sc) e) h) (N++cap.map (S.N.getD · ""))
end
section
variable (r:Rj) (S:Sq)
theorem Jx {q y:Str}{an:Option Expr}{ap:Pos}{b:Expr}{sc:Scope}{cl:List (Str×Addr)}{pm M u:Value}{c:Addr}:bindArgs (PySem.W.kla_fn "<lambda>" q ⟨[],[⟨y,an,ap⟩],none,[],[],none,[]⟩ b sc cl pm (.ref c) M) ⟨[u],[]⟩=pure [(y,u)]:=by
 have e:List.lookup y [(y,u)]=some u:=X9
 unfold bindArgs PySem.W.kla_fn;simp[e,seqItems?];rfl
theorem um {S:Sq}{N:LS}{sc:Scope}(hn:∀z∈sc.names,z.2≠.cell)(d:Yq S):∀ {cap:LN}{j:Nat},qN S N sc sc j cap->kj (bG S d) N sc (dm sc.names d.env.cells []) j cap
 |[],_,h=>.nil (xG h)
 |_::_,_,h=>let ⟨_,e,a,b,c,f,g⟩:=xG (CP h);.cons e a b (c.resolve_left λz=>hn _ (PySem.mem_of_lookup z) rr) (p4 f (d.cl _ g)) (um hn d (CQ h))
def Jy (S:Sq)(N:LS)(sc:Scope):Sq:=⟨S.g,N,sc,Jt sc,S.k - 3,false,none⟩
abbrev Jz (S:Sq)(N:LS)(sc:Scope)(y:Str)(cap:LN):Prop:=N.Nodup/\(∀z∈sc.names,z.2≠.cell)/\sc.kind=.function/\sc.isCoroutine=false/\sc.isGenerator=false/\sc.names.lookup y=some .local/\(∀z∈sc.names,z.2=.free->z.1∈S.cl)/\3<=S.k/\(∃x∈S.q,x∈j6/\x∈S.g.ls)/\qN S N sc sc 1 cap
theorem yV {S:Sq}{N:LS}{sc:Scope}{y:Str}{ap p:Pos}{an:Option Expr}{b:Expr}{a:FE}{cap:LN}(h:Jz S (y::N) sc y cap)(hb:uh (Jy S (y::N) sc) b a)(d:Yq S){A:Around}(g:A.frames=d.A.frames)(hr:dr (S.k - 3+1) A):
  JK (bG S d) A (.Lambda ⟨[],[⟨y,an,ap⟩],none,[],[],none,[]⟩ b sc p) (yM cap a):=
 let ⟨h1,h2,h3,h4,h5,i,e,_,⟨x,hx,j,M⟩,hc⟩:=h
 R8 j (d.ok.ls _ M) (d.ql x hx).2 (by show d.env.qual++_=_;rw[(d.ql x hx).1];rfl) rr (Vv h2 h3 h4 h5 i (ot d e)) rr (um h2 d hc) g hr (λ_ _ _ _=>Jx) λf c s H O=>hb ⟨d.prog,d.w,d.K,d.mg,d.base,_,s,H,PySem.W.envX _ sc s.z f (.ref c) (dm sc.names d.env.cells []),d.stack,_,[],O,yU d e,h1,d.ok,λ_ z=>nomatch z⟩
def CU:(O:Expr)->b9 λkf=>∀d:Yq S,JK (bG S d) d.A.in1 O kf/\JK (bG S d) d.A.in1.in1 O kf
 |.Name x _=>bW λj=>cy S.g.fs j λ⟨y,k,F⟩ m=>dR (qK S x y/\k+2<=S.k) (FM F) λ⟨⟨e,h⟩,hk⟩ d=>by
   subst e;exact⟨OV (d.ok.fs _ m) ((d.rm.mono (vR (le_succ _) hk)).in1) rr h.1 h.2,OV (d.ok.fs _ m) ((d.rm.mono hk).in1.in1) rr h.1 h.2⟩
 |.Lambda ⟨[],[⟨y,an,ap⟩],none,[],[],none,[]⟩ b sc p=>bW λn=>CO n λcap=>bX (Jz S (y::cap.map (S.N.getD · "")) sc y cap) (yM cap) (λM _ q d=>by
    have hk:S.k - 3+2+1<=S.k:=by have:=M.2.2.2.2.2.2.2.1;lia
    exact⟨yV M q d rr ((d.rm.mono hk).in1.mono (le_succ _)),yV M q d rr (d.rm.mono hk).in1.in1⟩) (r.E (Jy S (y::cap.map (S.N.getD · "")) sc) b)
 |_=>λ_=>none
def RW (p:Pos):(f:Expr)->(as:QD)->(ks:List Keyword)->b9 (uh S (.Call f as ks p))
 |.Name x _,e::es,[]=>bW λi=>
  if i<100 then cy S.g.fs i λ⟨y,k,F⟩ m=>bX (qK S x y/\k<=S.k/\∀a∈e::es,bq a) (fA F) (λ⟨⟨u,h⟩,hk,hn⟩ _ a d=>by
   subst u;exact V4 (d.ok.fs _ m) d.rm (a d) hk h.1 h.2 (aC (hn e X9)) (om λa m=>hn a (by simp[m]))) (qO r S (e::es))
  else if i<140 then cy RT (i - 100) λ⟨y,f,c⟩ _=>bX (ga S x y/\∀a∈e::es,bq a) (fA f) (λ⟨⟨⟨u,h⟩,k⟩,hn⟩ _ a d=>by
   subst u;exact c rr (d.ok.no _ k.1) (a d) h.1 k.2 h.2 (aC (hn e X9)) (om λa m=>hn a (by simp[m]))) (qO r S (e::es))
  else match e,es with
   |.Call (.Name y _) [e] [] _,[]=>cy RU (i - 140) λ⟨O,j,f,q⟩ _=>bX (ga S x O/\ga S y j/\bq e) (f1 f) (λ⟨⟨⟨u,h⟩,k⟩,⟨⟨v,g⟩,l⟩,n⟩ _ a d=>by
    subst u v;exact q rr (d.ok.no _ k.1) (d.ok.no _ l.1) (a d) h.1 g.1 (aC n)) (r.E S e)
   |.Call (.Name y _) [a,b] [] _,[]=>cc (ga S x "list"/\ga S y "zip"/\bq a/\bq b) fLZ (λ⟨⟨⟨u,h⟩,k⟩,⟨⟨v,g⟩,l⟩,n,m⟩ _ _ a b d=>by
    subst u v;exact Bp rr (d.ok.no _ k.1) (d.ok.no _ l.1) (a d) (b d) h.1 g.1 (by rw[aC n,aC m];rfl) (aC m) rr) (r.E S a) (r.E S b)
   |_,_=>λ_=>none
 |.Name x _,[e],[⟨some ka,M,_⟩]=>bW λi=>match i with
  |0=>cc (ga S x "max"/\ka = "key"/\bq e) CC (λ⟨⟨⟨u,h⟩,k⟩,v,n⟩ _ _ a b d=>by
   subst u v;exact OZ mmx (d.ok.no _ k.1) (a d) (b d).1 d.rm h.1 (aC n) (by rw[aC n];rfl) (by rw[aC n];rfl) rr rr rr) (r.E S e) (CU r S M)
  |1=>cc (ga S x "min"/\ka = "key"/\bq e) CD (λ⟨⟨⟨u,h⟩,k⟩,v,n⟩ _ _ a b d=>by
   subst u v;exact OZ mmn (d.ok.no _ k.1) (a d) (b d).1 d.rm h.1 (aC n) (by rw[aC n];rfl) (by rw[aC n];rfl) rr rr rr) (r.E S e) (CU r S M)
  |3=>cc (ga S x "sorted"/\ka = "key"/\bq e) Bu (λ⟨⟨⟨u,h⟩,k⟩,v,n⟩ _ _ a b d=>by
   subst u v;exact OW (Ji (la d.rm)) (d.ok.no _ k.1) (a d) (b d).2 h.1 (aC n) (by rw[aC n];rfl) (by rw[aC n];rfl) rr rr rr) (r.E S e) (CU r S M)
  |_=>cc (ga S x "sorted"/\ka = "key"/\bq e) wH (λ⟨⟨⟨u,h⟩,k⟩,v,n⟩ _ _ a b d=>by
   subst u v;exact OW R9 (d.ok.no _ k.1) (a d) (b d).2 h.1 (aC n) (by rw[aC n];rfl) (by rw[aC n];rfl) rr rr rr) (r.E S e) (CU r S M)
 |.Attribute o n ap,[e],[]=>bW λi=>match i,o,e with
  |9,o,.Tuple es _ _=>cc (n = "get"/\uj o/\ap.endLine == p.line) Jd (λ⟨u,a,l⟩ _ _ x y d=>by subst u;exact Je (Pa (la d.rm)) (x d) (y d) ⟨iJ a,rr,l,rr⟩) (r.E S o) (qO r S es)
  |i+10,.Subscript (.Name x _) b _,e=>cy S.g.ds i λ⟨y,c⟩ m=>cc (qK S x y/\n = "index"/\bq b/\bq e/\ap.endLine == p.line) (f2 (lG c)) (λ⟨⟨u,h⟩,v,hb,he,hl⟩ _ _ a b d=>by
   subst u v;exact MO (d.ok.ds _ m) (a d) (b d) h.1 h.2 (mK hb) rr (fO he) hl (aC he)) (r.E S b) (r.E S e)
  |i,o,e=>cy RV i λ⟨s,f,q⟩ _=>cc (n=s/\uj o/\bq e/\ap.endLine == p.line) (f2 f) (λ⟨u,a,b,l⟩ _ _ x y d=>by subst u;exact q (Pa (la d.rm)) (x d) (y d) a b l) (r.E S o) (r.E S e)
 |_,_,_=>λ_=>none
def RX:(e:Expr)->b9 (uh S e)
 |.Name x _=>bW λi=>
  if i<50 then dR (oS S i x) (aq i) λh _=>QA i h.1 h.2.1 h.2.2.1 h.2.2.2
  else if i<80 then cy S.g.cs (i - 50) λ⟨y,c⟩ m=>dR (qK S x y) (fC c) λ⟨u,h⟩ d=>by subst u;exact HM (d.ok.cs _ m) h.1 h.2
  else cy RS (i - 80) λ⟨y,n,b⟩ _=>dR (ga S x y) (fC (.ty n)) λ⟨⟨u,h⟩,k⟩ d=>by subst u;exact UW (d.ok.no _ k.1) b h.1 k.2 h.2
 |.Constant (.int _) ..=>dR True _ λ_ _=>QB
 |.Constant (.bool _) ..=>dR True _ λ_ _=>UE
 |.Constant .none ..=>dR True _ λ_ _=>QC
 |.Constant (.str _) ..=>dR True _ λ_ _=>QE
 |.BoolOp _ [a] _=>oR (λ_ x d=>QN (x d)) (r.E S a)
 |.BoolOp .And (a::b::t) p=>cc True HI (λ_ _ _ x y d=>QM (x d) (y d)) (r.E S a) (r.E S (.BoolOp .And (b::t) p))
 |.BoolOp .Or (a::b::t) p=>cc True UI (λ_ _ _ x y d=>UJ (x d) (y d)) (r.E S a) (r.E S (.BoolOp .Or (b::t) p))
 |.UnaryOp .Not a _=>bX True HJ (λ_ _ x d=>QO (x d)) (r.E S a)
 |.UnaryOp .USub a _=>bX True (f1 HN) (λ_ _ x d=>UG Va (x d)) (r.E S a)
 |.BinOp a op b _=>bW λi=>cy RQ i λ⟨M,f,q⟩ _=>cc (op=M) (f2 f) (λh _ _ x y d=>by subst h;exact UF q (x d) (y d)) (r.E S a) (r.E S b)
 |.Compare a ops bs p=>bW λi=>if i<20 then oR (λ_ h=>h.1) (Jv r S i p a ops bs)else match ops,bs with
  |[.In],[b]=>cc (bq b) (f2 Zz) (λh _ _ x y d=>RI (Pa (la d.rm)) (x d) (y d) (jJ h)) (r.E S a) (r.E S b)
  |_,_=>λ_=>none
 |.Subscript a (.Slice lo hi none _) _=>ui True Lq (λ_ _ _ _ x y z d=>HZ (x d) (y d) (z d)) (r.E S a) (Pf r S lo) (Pf r S hi)
 |.Subscript a b _=>bW λi=>match i,a with
  |0,a=>cc (bq b) (f2 dI) (λh _ _ x y d=>UU (x d) (y d) (mK h)) (r.E S a) (r.E S b)
  |1,a=>cc (bq b) (f2 Tt) (λh _ _ x y d=>RB (Pa (la d.rm)) (x d) (y d) (mK h)) (r.E S a) (r.E S b)
  |i+2,.Name x _=>cy S.g.ds i λ⟨y,c⟩ m=>bX (qK S x y/\bq b) (f1 (yw c)) (λ⟨⟨u,h⟩,n⟩ _ x d=>by subst u;exact MB (d.ok.ds _ m) (x d) h.1 h.2 (mK n)) (r.E S b)
  |_,_=>λ_=>none
 |.Tuple es _ _=>bX True (fA dn) (λ_ _ x d=>QP (x d)) (qO r S es)
 |.List es _=>bX True (fA fD) (λ_ _ x d=>QQ (x d)) (qO r S es)
 |.ListComp O [⟨tg,it,j,l⟩] sc p=>oR (λ_ h=>h.1) (Jw r S O tg it j l sc p)
 |.Call f as ks p=>RW r S p f as ks
 |_=>λ_=>none
def RY:(e:Expr)->b9 (yT S e)
 |.UnaryOp .Not a _=>bX True lh (λ_ _ x d=>QL (x d)) (r.T S a)
 |.BoolOp op es p=>oR (λ_ x d=>Zc (x d)) (r.W S (.BoolOp op es p))
 |.Compare a ops bs p=>bW λi=>if i<20 then bX True bJ (λ_ _ h=>h.2) (Jv r S i p a ops bs)else match i,ops,bs with
  |20,[.NotIn],[b]=>bX True bJ (λ_ _ x=>x) (cc (J2:=λf=>yT S (.Compare a [.NotIn] [b] p) (bJ f)) (bq b) (f2 Bn) (λh _ _ x y d=>FR (Pa (la d.rm)) (x d) (y d) (jJ h)) (r.E S a) (r.E S b))
  |i,[.NotIn],[.Name x q]=>cy S.g.ds (i - 30) λ⟨y,c⟩ m=>bX True bJ (λ_ _ x=>x) (bX (J1:=λf=>yT S (.Compare a [.NotIn] [.Name x q] p) (bJ f)) (qK S x y) (f1 (AW c)) (λ⟨u,h⟩ _ x d=>by subst u;exact FL (d.ok.ds _ m) (x d) h.1 h.2 rr) (r.E S a))
  |_,_,_=>λ_=>none
 |e=>bX (Pe e) bJ (λh _ x d=>QH (x d) (Jr h)) (r.E S e)
def RZ:(e:Expr)->b9 (Pc S e)
 |.BoolOp .Or [a] _=>oR (λ_ x d=>QJ (x d)) (r.T S a)
 |.BoolOp .Or (a::b::t) p=>cc True jw (λ_ _ _ x y d=>UH (x d) (y d)) (r.T S a) (r.W S (.BoolOp .Or (b::t) p))
 |.BoolOp .And [a] _=>oR (λ_ x d=>Mu (x d)) (r.T S a)
 |.BoolOp .And (a::b::t) p=>cc True fQ (λ_ _ _ x y d=>QK (x d) (y d)) (r.T S a) (r.W S (.BoolOp .And (b::t) p))
 |_=>λ_=>none
end
def CV:Nat->Rj
 |0=>⟨λ_ _ _=>none,λ_ _ _=>none,λ_ _ _=>none⟩
 |n+1=>⟨RX (CV n),RY (CV n),RZ (CV n)⟩
def J0 (S:Sq):(tg:Expr)->b9 λM=>∀d:Yq S,∃t,PG (bG S d) tg t/\Lo d.K M t
 |.Name x _=>bW λi=>dR (gQ S i x) (fz i) λh d=>⟨_,CT S d h,HD⟩
 |.Tuple [.Name x _,.Name y _] _ _=>bW λi=>bW λj=>dR (gQ S i x/\gQ S j y) (Ic [i,j]) λh d=>⟨_,Ph S d h.1 h.2,Vq⟩
 |_=>λ_=>none
section
variable (B:∀S b,b9 (Pd S b)) (S:Sq)
abbrev dD:Rj:=CV 24
def J5 (p:Pos)(tg it:Expr)(b:List Stmt):b9 (Jq S (.For tg it b [] p)):=bW λi=>match i,it with
 |0,it=>ui (bq it) Fp (λh _ _ _ x y z d=>let ⟨_,a,k⟩:=y d;V9 (x d) a k (z d) PassesOwn.never rr λx=>jI h x) (Pg dD S tg it) (J0 S tg) (B S b)
 |_,.Call (.Name x _) [a] [] _=>ui (ga S x "range"/\bq a) pX (λ⟨⟨⟨u,h⟩,k⟩,n⟩ _ _ _ x y z d=>by
   subst u;obtain⟨t,a,l⟩:=y d;exact Pb (x d h.1 (d.ok.no _ k.1) (aC n)) a l (z d) PassesOwn.never rr λx=>jI rr x)
   (bX (J1:=λf=>∀d:Yq S,Gl (bG S d) "range"->d.mg "range" = none->starEach [a] (bG S d).env=[(false,eval a (bG S d).env)]->∀ {p q:Pos},PI (bG S d) tg (.Call (.Name "range" q) [a] [] p) (Q5 d.K f)) True jA (λ_ _ x d h m n _ _=>yp m (x d) h n) (dD.E S a)) (J0 S tg) (B S b)
 |_,.Call (.Name x _) [a,c] [] _=>ui (ga S x "range"/\bq a/\bq c) pX (λ⟨⟨⟨u,h⟩,k⟩,n,m⟩ _ _ _ x y z d=>by
   subst u;obtain⟨t,a,l⟩:=y d;exact Pb (x d h.1 (d.ok.no _ k.1) n m) a l (z d) PassesOwn.never rr λx=>jI rr x)
   (cc (J2:=λf=>∀d:Yq S,Gl (bG S d) "range"->d.mg "range" = none->bq a->bq c->∀ {p q:Pos},PI (bG S d) tg (.Call (.Name "range" q) [a,c] [] p) (Q5 d.K f)) True iZ (λ_ _ _ x y d h m n k _ _=>FN m (x d) (y d) h (by rw[aC n,aC k];rfl) (aC k)) (dD.E S a) (dD.E S c)) (J0 S tg) (B S b)
 |_,_=>λ_=>none
def J6:(st:Stmt)->b9 (Jq S st)
 |.Return (some e) _=>bW λi=>match i,e with
  |0,e=>bX True Fm (λ_ _ x d=>QX (x d)) (dD.E S e)
  |i+1,.Name x _=>dR (oS S i x) (oF i) λh _=>Mw i h.1 h.2.1 h.2.2.1 h.2.2.2
  |_,_=>λ_=>none
 |.If c a b _=>ui True GO (λ_ _ _ _ x y z d=>UT (x d) (y d) (z d)) (dD.T S c) (B S a) (B S b)
 |.Assign [.Name x q] (.ListComp M [⟨tg,it,O,j⟩] sc p) sp=>bW λi=>if i<50 then bX (gQ S i x/\S.sc.names.lookup x=some .local/\S.sc.kind=.function/\(q.line == p.line)/\(sc.names.any λ(n,k)=>n == x && (k == .local || k == .cell))=false) (dN i) (λh _ y=>y.2 _ _ _ _ h.1 (λd=>by
   show pure ((if S.sc.kind.isAnnotationScope then ScopeKind.function else S.sc.kind) == ScopeKind.function && S.sc.names.lookup x == some NameKind.local && q.line == p.line && !(sc.names.any λ(n,k)=>n == x && (k == .local || k == .cell)))=_;rw[h.2.2.2.2,h.2.2.2.1,h.2.1,h.2.2.1];rfl) h.2.1) (Jw dD S M tg it O j sc p)
  else λ_=>none
 |.Assign [.Name x _] (.Dict [] [] _) _=>bW λv=>bW λi=>match v with
  |0=>dR (gQ S i x) (IQ i) λh d=>MX d.nd h.1 h.2.1 rr h.2.2
  |1=>dR (gQ S i x) (IS i) λh d=>MY d.nd h.1 h.2.1 rr h.2.2
  |_=>λ_=>none
 |.Assign [.Name x _] e _=>bW λv=>bW λi=>match v with
  |0=>bX (gQ S i x/\qL e) (dN i) (λh _ x d=>QY d.nd (x d) h.1.1 h.1.2.1 (iI h.2) h.1.2.2) (dD.E S e)
  |1=>bX (gQ S i x/\qL e) (Cj i) (λh _ x d=>Mx d.nd (x d) h.1.1 h.1.2.1 (iI h.2) h.1.2.2) (dD.E S e)
  |_=>λ_=>none
 |.Assign [.Subscript (.Name y _) k _] e _=>bW λv=>bW λi=>match v,k with
  |0,k=>cc (oS S i y/\bq k/\qL e) (ME i) (λh _ _ x z d=>Ry (z d) (x d) h.1.1 h.1.2.1 h.1.2.2.1 h.1.2.2.2 (by have:=h.2.1;intro _;cases k<;>first|rfl|cases this) (by unfold swapsWithSole;exact iI h.2.2) rr rr) (dD.E S k) (dD.E S e)
  |1,k=>cc (oS S i y/\qL e) (yO i) (λh _ _ x z d=>MZ (Pa (la d.rm)) (z d) (x d) h.1.1 h.1.2.1 h.1.2.2.1 h.1.2.2.2 (iI h.2)) (dD.E S k) (dD.E S e)
  |2,k=>cc (oS S i y/\qL e) (qJ i) (λh _ _ x z d=>Jm (Pa (la d.rm)) (z d) (x d) h.1.1 h.1.2.1 h.1.2.2.1 h.1.2.2.2 (iI h.2)) (dD.E S k) (dD.E S e)
  |3,.Tuple es _ _=>cc (oS S i y/\qL e) (ud i) (λh _ _ x z d=>Na (Pa (la d.rm)) (z d) (x d) h.1.1 h.1.2.1 h.1.2.2.1 h.1.2.2.2 (iI h.2)) (qO dD S es) (dD.E S e)
  |_,_=>λ_=>none
 |.For tg it b [] p=>bW λn=>match n with
  |0=>J5 B S p tg it b
  |n=>CO n λu=>bX True (Zw u) (λ_ _ x d=>Vs u (x d)) (J5 B S p tg it b)
 |.While c b [] _=>bW λn h=>match dD.T S c h with
  |none=>none
  |some (⟨f,o,p⟩,h)=>match B S b h with
   |none=>none
   |some (⟨g,o',r⟩,h)=>some (⟨fT f g n,o && o',λe d=>HK n PassesOwn.never (p (CP e) d) (r (CQ e) d)⟩,h)
 |.Expr (.Call (.Attribute (.Name x _) m ap) [e] [] cp) _=>bW λv=>bW λi=>match v with
  |0=>bX (oS S i x/\m = "append"/\bq e/\ap.endLine == cp.line) (xW i) (λ⟨h,u,n,l⟩ _ x d=>by subst u;exact Ra (x d) h.1 h.2.1 h.2.2.1 h.2.2.2 rr (fO n) l (aC n) rr) (dD.E S e)
  |1=>bX (oS S i x/\m = "extend"/\bq e/\ap.endLine == cp.line) (Ik i) (λ⟨h,u,n,l⟩ _ x d=>by subst u;exact Rz (x d) h.1 h.2.1 h.2.2.1 h.2.2.2 rr (fO n) l (aC n) rr) (dD.E S e)
  |_=>λ_=>none
 |.Raise ..=>dR True qi λ_ _=>Ii
 |.Continue _=>dR True OR λ_ _=>MA
 |_=>λ_=>none
end
def qP:Nat->∀S b,b9 (Pd S b)
 |0,_,_=>λ_=>none
 |_+1,_,[]=>dR True xU λ_ _=>QU
 |n+1,S,[st]=>oR (λ_ x d=>QW (x d)) (J6 (qP n) S st)
 |n+1,S,st::t::l=>cc True bN (λ_ _ _ x y d=>Mv (x d) (y d)) (J6 (qP n) S st) (qP n S (t::l))
noncomputable def B4 {α:Type}{J:α->Prop}:Option (Oj J×LN)->Option α
 |some (⟨f,_,_⟩,_)=>some f
 |none=>none
noncomputable def B5 {α:Type}{J:α->Prop}:Option (Oj J×LN)->Bool
 |some (⟨_,o,_⟩,_)=>o
 |none=>false
theorem Nl {α:Type}{J:α->Prop}{g:α}:∀ {o:Option (Oj J×LN)},B5 o=true->J ((B4 o).getD g)
 |some (⟨_,_,p⟩,_),k=>p k
@[simp] noncomputable abbrev aw (o:Option FS)(g:FS)(_:o=some g):FS:=g
noncomputable def VG (n:Nat)(l:List Stmt):List Stmt:=
 match l[n / 2]?,n % 2 with
 |some (.For _ _ b _ _),_=>b
 |some (.While _ b _ _),_=>b
 |some (.If _ a _ _),0=>a
 |some (.If _ _ b _),_=>b
 |_,_=>[]
structure Wq where
 G:Gq
 x:Str
 st:Stmt
 N:List Str
 k:Nat
 h:List Nat
def Wq.S (w:Wq):Sq:=⟨w.G,w.N,aE w.st,(aE w.st).names.filterMap λy=>if(aE w.st).names.lookup y.1=some .cell then some y.1 else none,w.k,true,if w.x∈w.G.ls then some w.x else none⟩
def Wq.r (w:Wq):Option FS:=B4 (qP 40 w.S (bM w.st) w.h)
def Wq.b (w:Wq)(l h:LN):Option FS:=B4 (qP 40 w.S (l.foldl (λl n=>VG n l) (bM w.st)) h)
noncomputable def Wq.gt (w:Wq)(F:LD->OB):Gq:=⟨(w.x,w.k+1,F)::w.G.fs,w.G.cs,w.G.ds,w.G.no,w.G.ls⟩
section
variable {P:Program}{w:World}{K:Frag}{mg:SV}{base:Heap}
abbrev a5 (w:World)(K:Frag)(mg:SV)(g:Gq):Prop:=∀ {P base},g.Ok P w K mg base
def Wq.js (W:Wq)(o:B5 (qP 40 W.S (bM W.st) W.h))(M:W.G.Ok P w K mg base)
  {f:Addr}{dF:Value}{A:Around}{outer:List PySem.Env}{s:Shared}{H:Hp}{E:XK}(nd:W.N.Nodup) (hr:dr W.k (A.deeper (envOfC W.x (aE W.st) s.z f dF))) (hc:W.x∈W.G.ls->∀c P,PySem.W.tabIn K W.x=some (c,P)->dF=.ref c):
  xY (pN A2 P w K mg base W.N W.x (aE W.st) f dF A outer s H E).nox (bM W.st) (W.r.getD qi):=by
 refine Nl o ⟨P,w,K,mg,base,_,s,H,envOfC W.x (aE W.st) s.z f dF,outer,envOfC W.x (aE W.st) s.z f dF::outer,[],hr,λy hy=>?_,nd,M,λy e=>?_⟩
 .obtain⟨z,hz,e⟩:=mem_filterMap.mp hy;split at e
  .cases e;exact Option.isSome_iff_exists.mpr (pO ‹_›)
  .cases e
 .have e:(if W.x∈W.G.ls then some W.x else none)=some y:=e;split at e
  .cases e;exact⟨rr,hc ‹_›⟩
  .cases e
def Wq.o {O:LD->OB}(W:Wq)(F:bL K W.x W.st)(a:a5 w K mg W.G)(n:Nat)
  (o:B5 (qP 40 W.S (bM W.st) W.h):=by decide +kernel)
  (S:FnScope W.N (W.N.take n) (aE W.st):=by refine⟨rr,rr,rr,?_,rr,?_,?_⟩<;>decide +kernel)
  (M:∀(kV doc pm:Value)(an:Option Addr)(dF ct:Value)(us:LU),us.length=(W.N.take n).length->bindArgs (fnOf W.x W.x (fG W.st) (bM W.st) (aE W.st) .none kV doc pm an dF ct) ⟨us,[]⟩=pure ((W.N.take n).zip us):=by
   exact λ_ _ _ _ _ _=>RH _ _ (by(repeat intro);rfl))
  (e:ax (W.r.getD qi) (W.N.take n).length (W.N.length - (W.N.take n).length)=O:=by kernel_rfl):a5 w K mg (W.gt O):=λ{P base}=>
 have q:W.G.Ok P w K mg base:=a
 ⟨q.hx,λt h=>by
  rcases vP h with h|h
  .subst h;exact F.fqL q.hx _ W.N n (λnd hr _ hc=>W.js o q nd hr λ_=>hc) S M e
  .exact q.fs _ h,q.cs,q.ds,q.no,q.ls⟩
end
end DL
namespace DL
open PySem L2
def cL (I:Nat->Env->Prop)(ds:LD)(O:Env)(h0:I 0 O)
  (step:∀i d ρ,ds[i]? = some d->I i ρ->∃M ρ',tg d ρ=some M/\(g M=some (.nx ρ')\/g M=some (.ct ρ'))/\I (i+1) ρ'):
  ∃ρ',fH tg g ds O=some (.nx ρ')/\I ds.length ρ':=by
 have key:∀(es:LD)(i:Nat)(ρ:Env),ds.drop i=es->i+es.length=ds.length->I i ρ->∃ρ',fH tg g es ρ=some (.nx ρ')/\I ds.length ρ':=by
  intro es;induction es with
  |nil=>simp_all
  |cons d es b=>
   intro i ρ e hl h;have hd:ds[i]? = some d:=by
    have:(ds.drop i)[0]? = some d:=by rw[e];rfl
    grind
   obtain⟨M,ρ',h1,h2,h3⟩:=step i d ρ hd h;have he:ds.drop (i+1)=es:=by rw[<-List.drop_drop,e];rfl
   obtain⟨a,k1,k2⟩:=b _ _ he (by simp at hl;lia) h3;refine⟨a,?_,k2⟩;simp_all<;>lia
 exact key ds 0 _ X9 X9 h0
def qQ (n:Nat)(I:Nat->Env->Prop)(O:Env)(h0:I 0 O)
  (step:∀(i:Nat) ρ,i<n->I i ρ->∃M ρ',tg (.int (i:Int)) ρ=some M/\(g M=some (.nx ρ')\/g M=some (.ct ρ'))/\I (i+1) ρ'):
  ∃ρ',fH tg g (bO 0 n) O=some (.nx ρ')/\I n ρ':=by
 have hl:(bO 0 n).length=n:=by simp[bO]
 obtain⟨ρ',h1,h2⟩:=cL I (bO 0 n) _ h0 λi d ρ hd h=>by
  unfold bO at hd;rw[vA]at hd;refine eZ hd λk hk hd=>?_;obtain⟨a,hk⟩:=vV hk;rw[length_range]at a;rw[getElem_range]at hk;subst hk;rw[Int.zero_add]at hd;subst hd;exact step i ρ a h
 simp_all
def jb {α:Type}{xs:List α}{j:Nat}(h:j<xs.length):ly xs (j:Int)=some xs[j]:=LW (by simp )
def wN {α:Type}{xs:List α}{i:Int}(h0:0<=i)(h:i.toNat<xs.length):ly xs i=some xs[i.toNat]:=by
 have:=jb h;rwa [Int.toNat_of_nonneg h0]at this
@[simp] def yW (xs:LI):aX (xs.map D.int)=true:=by
 induction xs with
 |nil=>simp
 |cons x xs M=>simp[M]
@[simp] def Lu (n:Nat)(xs:LI):(xs.map D.int).all (aY n)=true:=by
 simp
@[simp] def Nm (xs:LI):(xs.map D.int).all gO=true:=by
 simp
def uo (n:Nat):bO 0 n=((List.range n).map λ(k:Nat)=>(k:Int)).map D.int:=by
 simp_all[bO]
mutual
noncomputable def mL:D->D->Bool
 |.non,.non=>true
 |.bl a,.bl b=>a == b
 |.int a,.int b=>decide (a=b)
 |.str a,.str b=>decide (a=b)
 |.ty a,.ty b=>decide (a=b)
 |.tup xs,.tup ys=>qR xs ys
 |.lst xs,.lst ys=>qR xs ys
 |_,_=>false
noncomputable def qR:LD->LD->Bool
 |[],[]=>true
 |x::xs,y::ys=>mL x y && qR xs ys
 |_,_=>false
end
mutual
theorem CW:∀ {x y:D},mL x y=true->x=y
 |.non,.non,_=>rr
 |.bl a,.bl b,h=>by rw[show a=b from eq_of_beq h]
 |.int a,.int b,h=>by rw[show a=b from of_decide_eq_true h]
 |.str a,.str b,h=>by rw[show a=b from of_decide_eq_true h]
 |.ty a,.ty b,h=>by rw[show a=b from of_decide_eq_true h]
 |.tup xs,.tup ys,h=>by rw[qS h]
 |.lst xs,.lst ys,h=>by rw[qS h]
theorem qS:∀ {xs ys:LD},qR xs ys=true->xs=ys
 |[],[],_=>rr
 |x::xs,y::ys,h=>by
  have h:=Bool.and_eq_true_iff.mp h;rw[CW h.1,qS h.2]
end
def Yr (r:OB)(d:D)(b:Bool):Bool:=match r with
 |some (e,c)=>mL e d && c == b
 |none=>false
def wO (h:Yr r d b=true):r=some (d,b):=by
 rcases r with _|⟨e,c⟩
 .cases h
 .have h:=Bool.and_eq_true_iff.mp h;rw[CW h.1,eq_of_beq h.2]
section
variable {f:FE}{c:FT}{g g' h:FS}{ρ ρ':Env}{i:Nat}{d:D}{b:Bool}{r:Option Res}{ds:LD}
def ah (hl:ds.length=n)(e:g (ds.map (λd=>some (d,false))++List.replicate k none)=some (.rt d b)):ax g n k ds=some (d,b):=by
 unfold ax;rw[if_pos hl,e]
def Gf (n:aR d=true):setE ρ i d b=ρ.set i (some (d,false)):=by unfold setE;rw[if_pos n]
def J7 (n:aX ds=true):setE ρ i (.lst ds) true=ρ.set i (some (.lst ds,true)):=by
 simp_all
def Nn (n:aR d=false)(m:b=false\/xV d=false):setE ρ i d b=(unown ρ).set i (some (d,false)):=by
 unfold setE;have hz:¬(b=true/\xV d=true):=λz=>by
  lia
 rw[if_neg (by simp[n]),if_neg hz]
def J8 (e:f ρ=some (d,b))(k:h (setE ρ i d b)=r):bN (dN i f) h ρ=r:=by simp[e];exact k
def wP (e:f ρ=some (d,b))(n:aR d=true)(k:h (ρ.set i (some (d,false)))=r):bN (dN i f) h ρ=r:=J8 e (by rw[Gf n];exact k)
def bx (e:f ρ=some (.lst ds,true))(n:aX ds=true)(k:h (ρ.set i (some (.lst ds,true)))=r):bN (dN i f) h ρ=r:=J8 e (by rw[J7 n];exact k)
def J9 (e:f ρ=some (d,b))(n:aR d=false)(m:b=false\/xV d=false)(k:h ((unown ρ).set i (some (d,false)))=r):bN (dN i f) h ρ=r:=J8 e (by rw[Nn n m];exact k)
def cm (e:g ρ=some (.nx ρ'))(k:h ρ'=r):bN g h ρ=r:=by unfold bN;rw[e];exact k
def VH (e:g ρ=some (.rt d b)):bN g h ρ=some (.rt d b):=by unfold bN;rw[e]
def Z5 (e:g ρ=some (.ct ρ')):bN g h ρ=some (.ct ρ'):=by unfold bN;rw[e]
def mM (e:c ρ=some true)(k:g ρ=r):GO c g g' ρ=r:=by unfold GO;rw[e];exact k
def gM (e:c ρ=some false)(k:g' ρ=r):GO c g g' ρ=r:=by unfold GO;rw[e];exact k
def VI (e:c ρ=some x)(M:x=true->g ρ=r)(kf:x=false->g' ρ=r):GO c g g' ρ=r:=by
 cases x with
 |true=>exact mM e (M rr)
 |false=>exact gM e (kf rr)
def aP (e:c ρ=some true)(k:g ρ=some (.rt d b)):bN (GO c g g') h ρ=some (.rt d b):=VH (mM e k)
def am (e:c ρ=some false)(k:h ρ=r):bN (GO c g xU) h ρ=r:=cm (gM e rr) k
def ai (e:f ρ=some (d,b)):Fm f ρ=some (.rt d b):=by simp[e]
def kI (e:ρ[i]? = some (some (d,b)))(hb:OL d=false:=by rfl):oF i ρ=some (.rt d b):=by simp only[oF,e,hb];simp
def yX (e:f ρ=some (d,b))(n:aR d=true):dN i f ρ=some (.nx (ρ.set i (some (d,false)))):=by
 simp_all
def wQ (e:f ρ=some (.lst ds,true))(n:aX ds=true):dN i f ρ=some (.nx (ρ.set i (some (.lst ds,true)))):=by
 simp_all
def jc (e:ρ[i]? = some (some (.lst ds,true)))(M:f ρ=some (d,b))(n:aR d=true)(l:ds.length<sizeLine):xW i f ρ=some (.nx (ρ.set i (some (.lst (ds++[d]),true)))):=by
 simp[e,M,n,l]
def Pj (e:ρ[i]? = some (some (.lst ds,true)))(M:f ρ=some (d,b))(n:aR d=true)(l:ds.length<sizeLine)(k:h (ρ.set i (some (.lst (ds++[d]),true)))=r):bN (xW i f) h ρ=r:=cm (jc e M n l) k
def gb (e:fi ρ=some ds)(k:fH tg g ds ρ=some (.nx ρ')):pX fi tg g ρ=some (.nx ρ'):=by unfold pX;rw[e];exact k
def jd (e:fi (kZ ρ)=some ds)(k:fH tg g ds ρ=some (.nx ρ')):Fp fi tg g ρ=some (.nx ρ'):=by unfold Fp;rw[e];exact k
def eJ {f:FE}{j:Nat}(e:f ρ=some (.int j,b))(hj:j<=1000):jA f ρ=some (bO 0 j):=by
 simp_all<;>lia
def ca (e:f ρ=some (.bl x,b)):bJ f ρ=some x:=by unfold bJ;rw[e]
def aI (e:fa ρ=some ds)(k:F ds=x):fA F fa ρ=x:=by simp_all
def iK {f1 g1:D->D->OB}{fa M O:FE}{x y z:D}{b1 b2 b3 b4 p q:Bool}(ea:fa ρ=some (x,b1))(a:M ρ=some (y,b2))(e:O ρ=some (z,b3))(e1:f1 x y=some (.bl p,b4))(e2:p=true->g1 y z=some (.bl q,false)):j8 f1 g1 fa M O ρ=some (.bl (p && q),false):=by
 unfold j8;rw[ea,a,e];simp [vJ,e1];cases p
 .rfl
 .exact e2 rr
def bP {f1 f2:FE}{p q b1:Bool}(e1:f1 ρ=some (.bl p,b1))(e2:p=true->f2 ρ=some (.bl q,false)):HI f1 f2 ρ=some (.bl (p && q),false):=by
 unfold HI;rw[e1];cases p
 .rfl
 .exact e2 rr
def qT {f1 f2:FE}{p q b1:Bool}(e1:f1 ρ=some (.bl p,b1))(e2:p=false->f2 ρ=some (.bl q,false)):UI f1 f2 ρ=some (.bl (p || q),false):=by
 unfold UI;rw[e1];cases p
 .exact e2 rr
 .rfl
def No {f1:FE}{p b1:Bool}(e1:f1 ρ=some (.bl p,b1)):HJ f1 ρ=some (.bl (!p),false):=by
 unfold HJ;rw[e1]
def a7 (e1:f ρ=some (d,b))(e2:M ρ=some xs):ak f M ρ=some (d::xs):=by
 simp_all
def f8 (e1:fa ρ=some (x,b1))(e2:O ρ=some (y,b2))(M:op x y=z):f2 op fa O ρ=z:=by
 simp_all
def bS (e1:M ρ=some p)(e2:p=true->c2 ρ=some q):fQ M c2 ρ=some (p && q):=by
 unfold fQ;rw[e1];cases p
 .rfl
 .exact e2 rr
def bc (e1:M ρ=some p)(e2:p=false->c2 ρ=some q):jw M c2 ρ=some (p || q):=by
 unfold jw;rw[e1];cases p
 .exact e2 rr
 .rfl
def aK (e1:M ρ=some p):lh M ρ=some (!p):=by
 unfold lh;rw[e1];rfl
end
theorem GS (a c:Nat):decide ([a]<[c])=decide (a<c):=by
 simp_all[cons_lt_cons_iff]
@[simp] def CY (a c:Nat):ON (.str ⟨#[a]⟩) (.str ⟨#[c]⟩)=some (.bl (decide (a<=c)),false):=by
 grind[ON,GS]
def b7 (h:n<=100000):n<sizeLine:=lt_of_le_of_lt h H9
def cM (h:n<=100000):n<=sizeLine:=le_of_lt (b7 h)
def de {α:Type}(l:List α)(g:α->D)(p:α->Bool)(h:α->D)(e:fi ρ=some (l.map g))(hl:l.length<=100000)
  (k:∀x∈l,∃M,tg (g x) (cj nT cap ρ)=some M/\c M=some (p x)/\(p x=true->∃b,fe M=some (h x,b))):j7 fi nT cap tg c fe ρ=some (.lst ((l.filter p).map h),true):=by
 have key:∀O:List α,(∀x∈O,x∈l)->fB tg c fe (cj nT cap ρ) (O.map g)=some ((O.filter p).map h):=by
  intro O;induction O with
  |nil=>simp
  |cons x O a=>
   grind[mX,AN]
 unfold j7;rw[e,vJ,if_pos (cM (by simpa using hl)),key l λ_ h=>h,Option.map_some]
def ge {α:Type}(l:List α)(g:α->D)(h:α->D)(e:fi ρ=some (l.map g))(hl:l.length<=100000)
  (k:∀x∈l,∃M,tg (g x) (cj nT cap ρ)=some M/\∃b,fe M=some (h x,b)):j7 fi nT cap tg ya fe ρ=some (.lst (l.map h),true):=by
 have:=de (c:=ya) l g _ h e hl λx hx=>by
  obtain⟨M,h1,h2⟩:=k x hx;exact⟨M,h1,rr,λ_=>h2⟩
 rw[List.filter_eq_self.mpr λ_ _=>rr]at this;exact this
@[simp] def yY {α:Type}(f:α->Bool)(l:List α):sE (l.map λx=>.bl (f x))=some (l.map f):=by
 induction l with
 |nil=>rfl
 |cons x l M=>simp[M]
def AH (h0:0<=i)(h:i.toNat<z.cps.size)(hz:z.length<=100000):dI (.str z) (.int i)=some (.str ⟨#[z.cps.toList.getD i.toNat 0]⟩,false):=by
 simp_all[cM,wN]
def Sa (h0:0<=i)(h:i.toNat<ds.length):dI (.lst ds) (.int i)=some (ds.getD i.toNat .non,false):=by
 simp_all[wN]
def pQ (h0:0<=i)(h:i.toNat<ds.length):dI (.tup ds) (.int i)=some (ds.getD i.toNat .non,false):=by
 simp_all[wN]
def CZ {xs:LI}{i:Int}(h0:0<=i)(h:i.toNat<xs.length):dI (.lst (xs.map .int)) (.int i)=some (.int (xs.getD i.toNat 0),false):=by
 rw[Sa h0 (by simpa using h)];simp[h]
def Gg (z:Str):yt z=z.cps.toList.map λc=>.str ⟨#[c]⟩:=rfl
def mod_lt {x m:Int}(hm:0<m):0<=x % m/\x % m<m:=⟨Int.emod_nonneg _ N9,Int.emod_lt_of_pos _ hm⟩
def eY:hV [.lst ds]=some (.int ds.length,false):=rfl
def yZ (h:0<=v):HT.cQ n d (some v)=min v.toNat n:=by
 show(if v<0 then (v+(n:Int)).toNat else min _ n)=_;rw[if_neg N9]
def aJ (x y:D)(e1:fa ρ=some (x,false))(e2:O ρ=some (y,false))(M:op x y=z):f2 op fa O ρ=z:=f8 e1 e2 M
def bB (e:f ρ=some (.bl x,false)):bJ f ρ=some x:=ca e
def aM (e1:f ρ=some (d,false))(e2:M ρ=some xs):ak f M ρ=some (d::xs):=a7 e1 e2
def a0 (ds:LD)(e:fa ρ=some ds)(k:F ds=x):fA F fa ρ=x:=aI e k
def fu (d:D)(e:f ρ=some (d,false))(n:aR d=true)(k:h (ρ.set i (some (d,false)))=r):bN (dN i f) h ρ=r:=wP e n k
@[simp] noncomputable abbrev rkE (aa:LD)(ae:Int)(t:Env):Env:=some (.tup aa,false)::some (.int ae,false)::t
@[simp] noncomputable abbrev eR (ns:LI)(zs:LS)(O:Int)(M:LS)(R:LD)(a b:OB)(t:Env):Env:=some (.lst (ns.map .int),false)::some (.lst (zs.map .str),false)::some (.int O,false)::a::some (.lst (M.map .str),true)::some (.lst R,true)::b::t
end DL
set_option backward.eqns.nonrecursive true
namespace Lw
open PySem PySem.Spec PyProof.Rows L2 DL
def lq:D:=(.int 255)
def qU:D:=(.int 9999)
def jK:D:=(.int 9)
def jL:D:=(.int 8)
def lr:D:=(.int 20)
def ig:D:=(.int 8)
def jM:D:=(.int 60)
noncomputable def za:D:=(.tup [(.str "paper"),(.str "like"),(.str "copy")])
noncomputable def bT:List (PySem.Str×D):=[(("root" : Str),(.tup [(.str "office"),(.str "matters"),(.str "further"),(.str "rule")])),(("named" : Str),(.tup [(.str "day"),(.str "office"),(.str "person")])),(("chosen" : Str),(.tup [(.str "day"),(.str "by"),(.str "office"),(.str "person"),(.str "since")])),(("heir" : Str),(.tup [(.str "day"),(.str "by"),(.str "office"),(.str "person")])),(("death" : Str),(.tup [(.str "day"),(.str "person")])),(("lost" : Str),(.tup [(.str "day"),(.str "person")])),(("found" : Str),(.tup [(.str "day"),(.str "person")])),(("leave" : Str),(.tup [(.str "day"),(.str "by"),(.str "person"),(.str "matters"),(.str "stretch"),(.str "further")])),(("paper" : Str),(.tup [(.str "day"),(.str "by"),(.str "matters"),(.str "stretch"),(.str "whom"),(.str "pieces")])),(("like" : Str),(.tup [(.str "day"),(.str "by"),(.str "matters"),(.str "stretch"),(.str "whom"),(.str "of"),(.str "changes")])),(("copy" : Str),(.tup [(.str "day"),(.str "by"),(.str "of")])),(("call" : Str),(.tup [(.str "day"),(.str "by"),(.str "of")]))]
noncomputable def gg:D:=(.tup [(.str "by"),(.str "person"),(.str "whom")])
noncomputable def Db:D:=(.tup [(.str "open"),(.str "first"),(.str "last")])
noncomputable def gh:D:=(.tup [(.str "chosen"),(.str "heir"),(.str "leave"),(.str "paper"),(.str "like"),(.str "copy"),(.str "call")])
noncomputable def aO (i:Nat):Stmt:=PySem.Challenge.pw_sealchain_k53_whole_chains_reach_no_furt.main.body.getD i (.Pass ⟨0,0,0,0⟩)
noncomputable def Gh:Gq:=⟨[],[("ALL_MATTERS",lq),("LAST_DAY",qU),("MOST_FURTHER",jK),("MOST_LETTERS",jL),("MOST_PEOPLE",lr),("MOST_PIECES",ig),("MOST_ROWS",jM),("PAPERS",za),("PERSON_PARTS",gg),("RULES",Db),("SEALINGS",gh)],[("PARTS",bT)],["all","any","bool","dict","enumerate","int","isinstance","len","list","max","min","range","reversed","set","sorted","str","tuple","zip"],["in_order","has_seal","is_first_death","bases_by"]⟩
def Np:Wq:=⟨Gh,"is_whole",aO 6,["thing","least","most"],0,[0,100,0,80,100,0,81,0,0,1,0,2]⟩
def lI:=ax (aw Np.r _ rr) 3 0
def Nq:Wq:=⟨Np.gt lI,"is_day",aO 7,["thing"],1,[0,0,0,51]⟩
def qV:=ax (aw Nq.r _ rr) 1 0
def Nr:Wq:=⟨Nq.gt qV,"is_stretch",aO 8,["thing"],2,[100,0,82,1,101,0,0,0,0,0,0,2,0,0,0,0,0,3,0,0,0,0]⟩
def mN:=ax (aw Nr.r _ rr) 1 0
def Nt:Wq:=⟨Nr.gt mN,"is_matters",aO 12,["thing"],1,[0,2,0,50]⟩
def mO:=ax (aw Nt.r _ rr) 1 0
def Nu:Wq:=⟨Nt.gt mO,"is_name",aO 22,["thing"],0,[100,0,83,0,0,101,0,53,0,0,102,0,0,0,0,0,0]⟩
def kJ:=ax (aw Nu.r _ rr) 1 0
def Nv:Wq:=⟨Nu.gt kJ,"is_rule",aO 24,["thing"],0,[0,100,0,83,4,0,59]⟩
def uq:=ax (aw Nv.r _ rr) 1 0
def Nw:Wq:=⟨Nv.gt uq,"is_piece",aO 23,["thing"],1,[0,1,0]⟩
def lJ:=ax (aw Nw.r _ rr) 1 0
def Nx:Wq:=⟨Nw.gt lJ,"is_pieces",aO 25,["thing"],2,[100,0,82,0,0,101,0,55,0,0,102,0,0,0,0,0]⟩
def gR:=ax (aw Nx.r _ rr) 1 0
def Ny:Wq:=⟨Nx.gt gR,"is_change",aO 26,["thing"],2,[100,0,82,1,101,0,0,0,7,0,0,0,55,1,0,0]⟩
def gS:=ax (aw Ny.r _ rr) 1 0
def Nz:Wq:=⟨Ny.gt gS,"is_changes",aO 27,["thing","places"],3,[100,0,82,102,0,0,0,0,0,0,1,0,0,0,0,0,0,102,0,4,1,1,3,0,1]⟩
def je:=ax (aw Nz.r _ rr) 1 1
def Dc:Wq:=⟨Nz.gt je,"is_part",aO 28,["part","thing"],4,[5,0,5,0,0,8,1,5,0,5,0,5,0,0,5,1,5,0,0,2,1,5,1,5,0,0,6,1,5,0,0,7,1,5,0,0,9,1,52,5,0,0,4,1,5,0,0,9,1,0,56,5,0,0,2,1,0,0,1]⟩
def cS:=ax (aw Dc.r _ rr) 2 0
def De:Wq:=⟨Dc.gt cS,"is_deed",aO 29,["thing"],5,[100,0,82,5,101,0,100,0,0,83,0,30,0,0,1,101,0,1,101,2,0,0,0,0,102,0,4,2,0,0,0,0,0,1]⟩
def ou:=ax (aw De.r _ rr) 1 0
def Df:Wq:=⟨De.gt ou,"word_of",aO 32,["row"],0,[0,0,0,0]⟩
def bo:=ax (aw Df.r _ rr) 1 0
def Dg:Wq:=⟨Df.gt bo,"part_of",aO 33,["row","part"],1,[0,0,0,0,1,10,0,0,1]⟩
def av:=ax (aw Dg.r _ rr) 2 0
def Dh:Wq:=⟨Dg.gt av,"day_of",aO 34,["row"],2,[5,1,0,0,0,0,0]⟩
def bp:=ax (aw Dh.r _ rr) 1 0
def Di:Wq:=⟨Dh.gt bp,"is_timely",aO 30,["row","day"],3,[0,1,0,0,2,1,0,5,2,0,3,1,0,1,0,0,0,1,0,0]⟩
def jN:=ax (aw Di.r _ rr) 1 1
def Dj:Wq:=⟨Di.gt jN,"is_row",aO 31,["thing"],6,[100,0,82,1,101,0,0,0,14,0,0,4,0,0,0,0]⟩
def qW:=ax (aw Dj.r _ rr) 1 0
def Dk:Wq:=⟨Dj.gt qW,"root_offices",aO 39,["rows"],2,[0,0,0,0,5,4,0,3,0]⟩
def gk:=ax (aw Dk.r _ rr) 1 0
def Dl:Wq:=⟨Dk.gt gk,"is_second_root",aO 40,["ahead","row"],3,[0,5,5,1,4,4,1,0,0]⟩
def eK:=ax (aw Dl.r _ rr) 2 0
def Dm:Wq:=⟨Dl.gt eK,"parts_in",aO 35,["row"],1,[0,150,2,6,0,0,0]⟩
def gm:=ax (aw Dm.r _ rr) 1 0
def Dn:Wq:=⟨Dm.gt gm,"people_in",aO 36,["row","names"],2,[1,0,0,0,0,4,0,58,6,1,1,0,140,1]⟩
def gT:=ax (aw Dn.r _ rr) 1 1
def zb:Wq:=⟨Dn.gt gT,"count_people",aO 41,["rows","names","row"],3,[0,1,0,0,0,0,2,1,1,0,2,0,141,1]⟩
abbrev pv:=aw (zb.b [2] [1,1,0,2]) _ rr
def gn:=ax (aw zb.r _ rr) 1 2
def Dp:Wq:=⟨zb.gt gn,"is_refused",aO 42,["book","place"],7,[7,1,56,5,0,0,1,0,0,3,0,1,0,0,1,8,0,0,1,1,54]⟩
def jf:=ax (aw Dp.r _ rr) 2 0
def zc:Wq:=⟨Dp.gt jf,"register_of",aO 43,["rows","book","place"],8,[103,0,84,82,0,1,104,0,0,1,101,1,2,0,1,2,2]⟩
abbrev qX:=aw (zc.b [4] [0,1,2]) _ rr
def fg:=ax (aw zc.r _ rr) 1 2
def Dq:Wq:=⟨zc.gt fg,"heard",aO 44,["book","known"],0,[0,1,1,3,0,0,0,1,2,0]⟩
def dS:=ax (aw Dq.r _ rr) 2 0
def Dr:Wq:=⟨Dq.gt dS,"rank",aO 46,["book","number"],3,[0,10,0,0,1,1]⟩
def gp:=ax (aw Dr.r _ rr) 2 0
def Ds:Wq:=⟨Dr.gt gp,"in_order",aO 48,["book","known","dated"],7,[2,1,0,0,1,0,1,6,11,0,1,0,0,0,2,2,1,0,0,1,0]⟩
def dA:=ax (aw Ds.r _ rr) 2 1
def Dt:Wq:=⟨Ds.gt dA,"by_office",aO 60,["claim"],0,[0,0,0,0,0,0,0]⟩
def jO:=ax (aw Dt.r _ rr) 1 0
def Du:Wq:=⟨Dt.gt jO,"roots",aO 49,["book","known","known_rows"],2,[2,1,0,0,3,0,1,0,1,0,0,105,0,0,2,5,15,0,14,0,0]⟩
def gU:=ax (aw Du.r _ rr) 2 1
def Dv:Wq:=⟨Du.gt gU,"is_known",aO 45,["book","known","number"],0,[0,0,3,2,101,0,0,0,0,0,2,1]⟩
def cz:=ax (aw Dv.r _ rr) 3 0
def Dx:Wq:=⟨Dv.gt cz,"tells",aO 52,["row","words","person","day"],3,[0,4,17,0,1,5,16,0,2,0,15,0,3]⟩
def pA:=ax (aw Dx.r _ rr) 4 0
def Dy:Wq:=⟨Dx.gt pA,"told_of",aO 53,["book","known","words","person","day"],4,[0,4,2,3,4,0,0,6,0,1,0,0,4,0,1,2,3,0]⟩
def kK:=ax (aw Dy.r _ rr) 5 0
def Dz:Wq:=⟨Dy.gt kK,"lives",aO 54,["book","known","person","day"],5,[0,5,101,0,0,1,2,3]⟩
def pB:=ax (aw Dz.r _ rr) 4 0
def D0:Wq:=⟨Dz.gt pB,"has_seal",aO 55,["book","known","person","day","told"],7,[0,4,1,0,1,2,3,5,101,4,0,0,5,20,0,0,0,4,1,0,7,1,0]⟩
def lK:=ax (aw D0.r _ rr) 4 1
def D1:Wq:=⟨D0.gt lK,"is_sound",aO 56,["book","known","number","sealer","day"],8,[4,0,1,2,9,21,0,0,2,60,0,0,3,20,0,0,2,0,4,19,0,0,2,0,1,0,1,3,4,0,0,1,3,4]⟩
def jg:=ax (aw D1.r _ rr) 3 2
def D2:Wq:=⟨D1.gt jg,"lies_in",aO 9,["day","stretch"],0,[0,0,0,1,0,2,0,1,3,0,0,1]⟩
def kL:=ax (aw D2.r _ rr) 2 0
def D3:Wq:=⟨D2.gt kL,"is_alive",aO 58,["claim","day"],1,[0,0,1,0,0,0,0]⟩
def dB:=ax (aw D3.r _ rr) 2 0
def D4:Wq:=⟨D3.gt dB,"by_since",aO 59,["claim"],0,[0,0,0,0,0]⟩
def gu:=ax (aw D4.r _ rr) 1 0
def D5:Wq:=⟨D4.gt gu,"chief_of",aO 61,["alive","rule"],4,[5,1,0,0,0,0,0,0,0,1,0,0]⟩
def lL:=ax (aw D5.r _ rr) 2 0
def D6:Wq:=⟨D5.gt lL,"holder_by",aO 62,["claimed","root","day","alive","people","person","oldest"],5,[3,2,2,1,0,0,5,0,0,25,2,2,0,1,0,0,4,140,0,0,3,0,0,5,101,4,0,8,101,4,5,25,1,0,4,0,5,0,3,25,1,0,6,1,1,5,0,3,5,0,0,1,0,1,0,5,0,6]⟩
def jP:=ax (aw D6.r _ rr) 3 4
def D7:Wq:=⟨D6.gt jP,"is_held_by",aO 63,["claimed","root","person","day"],6,[0,5,0,0,1,3,2]⟩
def cV:=ax (aw D7.r _ rr) 4 0
def D8:Wq:=⟨D7.gt cV,"is_first_death",aO 64,["book","known","number","row","deaths"],7,[0,3,0,0,2,0,4,9,0,1,27,3,26,3,0,5,1,4,1,0,15,1,0,2]⟩
def eM:=ax (aw D8.r _ rr) 3 2
def D9:Wq:=⟨D8.gt eM,"counts",aO 65,["book","known","so_far","number","row","root"],9,[0,4,0,0,3,5,29,4,0,0,0,1,3,9,29,4,0,0,5,0,13,0,1,28,4,2,5,0,5,29,4,0,0,7,0,1,3,1,2,5,28,4,27,4]⟩
def mP:=ax (aw D9.r _ rr) 4 2
def DA:Wq:=⟨D9.gt mP,"new_claim",aO 66,["row","since","number"],2,[0,29,0,29,0,1,2]⟩
def gV:=ax (aw DA.r _ rr) 3 0
def zd:Wq:=⟨DA.gt gV,"ended",aO 67,["so_far","offices","person","day","left","claim"],2,[0,4,0,0,0,0,5,9,0,5,1,1,0,5,2,7,5,3,8,0,5,3,0,4,5,3,0,5,3,0,4,0,5,2,0,5,3,0,5,5]⟩
abbrev ze:=aw (zd.b [2] [9,0,5,1,1,0,5,2,7,5,3,8,0,5,3,0,4,5,3,0,5,3,0,4,0,5,2,0,5,3,0,5]) _ rr
def wR:=ax (aw zd.r _ rr) 4 2
def DB:Wq:=⟨zd.gt wR,"after_choice",aO 68,["so_far","row","number","since","left"],3,[0,3,31,1,0,4,0,0,31,1,31,1,3,0,1,4,1,1,3,2]⟩
def gy:=ax (aw DB.r _ rr) 3 2
def zf:Wq:=⟨DB.gt gy,"inherited",aO 69,["book","known","so_far","heirs","number","person","day","told","office","heir"],6,[0,5,32,0,0,4,0,6,31,0,0,4,0,7,2,5,6,0,0,140,2,5,6,0,2,5,0,0,1,9,0,2,0,0,8,0,9,9,3,8,5,6,9,13,0,1,9,6,0,7,8,9,6,4,8]⟩
abbrev jh:=aw (zf.b [6] [0,9,9,3,8,5,6,9,13,0,1,9,6,0,7,8,9,6,4]) _ rr
def jQ:=ax (aw zf.r _ rr) 5 5
def DC:Wq:=⟨zf.gt jQ,"after_death",aO 70,["book","known","so_far","heirs","number","offices","left"],7,[5,0,0,2,0,0,0,6,2,2,5,33,0,0,4,32,0,0,4,0,1,6,0,0,1,2,3,4]⟩
def ij:=ax (aw DC.r _ rr) 5 2
def zg:Wq:=⟨DC.gt ij,"claims",aO 71,["book","known","so_far","heirs","number","row"],10,[0,2,1,3,0,0,0,21,0,1,4,0,5,0,0,4,5,0,1,2,4,5,35,5,0,2,1,2,4,5,33,5,4,5,35,5,0,2,2,2,5,4,5,35,5,3,3,34,5,34,5,34,5,0,2,0,0,1,2,3,4,0,2,2,20]⟩
abbrev oy:=aw (zg.b [4] [0,5,0,0,4,5,0,1,2,4,5,35,5,0,2,1,2,4,5,33,5,4,5,35,5,0,2,2,2,5,4,5,35,5,3,3,34,5,34,5,34,5,0,2,0,0,1,2,3,4]) _ rr
def qY:=ax (aw zg.r _ rr) 2 4
def DD:Wq:=⟨zg.gt qY,"is_paper",aO 75,["book","known","number"],1,[0,19,0,1,2,4,36,0,0,2,57]⟩
def eN:=ax (aw DD.r _ rr) 3 0
def DE:Wq:=⟨DD.gt eN,"is_leave",aO 76,["book","known","number"],1,[0,20,0,1,2,5,37,0,0,2]⟩
def gz:=ax (aw DE.r _ rr) 3 0
def DF:Wq:=⟨DE.gt gz,"is_borne",aO 77,["book","known","number"],2,[0,0,0,1,2,1,0,1,2]⟩
def eO:=ax (aw DF.r _ rr) 3 0
def DG:Wq:=⟨DF.gt eO,"covers",aO 13,["matters","some"],0,[0,5,2,0,1,1]⟩
def g9:=ax (aw DG.r _ rr) 2 0
def DH:Wq:=⟨DG.gt g9,"reach_bar",aO 81,["row","above"],2,[0,39,1,39,0,0,5,40,0,7,39,0,39,1,0,0]⟩
def jR:=ax (aw DH.r _ rr) 2 0
def DI:Wq:=⟨DH.gt jR,"office_bar",aO 82,["claimed","row","root"],7,[13,0,2,40,1,39,1,0,0,0,1,2]⟩
def fJ:=ax (aw DI.r _ rr) 3 0
def DJ:Wq:=⟨DI.gt fJ,"office_bases",aO 85,["book","known","claimed","number","row","bearing"],8,[0,4,0,0,3,5,2,2,4,5,26,0,1,2,0,1,2,0,0,0,2,2,4,0,5,41,0,0,15,1,0,40,2]⟩
def gA:=ax (aw DJ.r _ rr) 4 2
def DK:Wq:=⟨DJ.gt gA,"ends_within",aO 11,["stop","bound"],0,[2,1,0,0,6,0,0,0,1]⟩
def io:=ax (aw DK.r _ rr) 2 0
def DM:Wq:=⟨DK.gt io,"is_within",aO 10,["one","other"],1,[0,0,0,1,0,0,0,0,0,0,1]⟩
def gW:=ax (aw DM.r _ rr) 2 0
def DN:Wq:=⟨DM.gt gW,"is_ahead",aO 47,["book","one","other"],4,[0,10,32,0,1,32,0,2]⟩
def gB:=ax (aw DN.r _ rr) 3 0
def DO:Wq:=⟨DN.gt gB,"leave_bar",aO 83,["book","number","leave","row","stretch"],5,[0,3,0,0,1,0,4,45,0,0,2,0,0,2,1,0,23,44,3,4,1,45,3,4,0,0,5,3,0,0,2]⟩
def jS:=ax (aw DO.r _ rr) 3 2
def DP:Wq:=⟨DO.gt jS,"leaves_to",aO 84,["book","known","person","leaves"],2,[3,2,0,1,0,35,0,1,9,1,2,0,0,0,2,2,0,0,3,5,46,0,2,0,1,0]⟩
def jT:=ax (aw DP.r _ rr) 3 1
def DQ:Wq:=⟨DP.gt jT,"leave_bases",aO 86,["book","known","number","leaves"],6,[0,3,0,0,1,47,0,0,2,0,2,0,2,0,3,2,1,1,2,0,0]⟩
def iq:=ax (aw DQ.r _ rr) 3 1
def DR:Wq:=⟨DQ.gt iq,"copy_bases",aO 87,["book","known","number","of"],5,[0,3,48,0,0,2,12,0,1,3,3,0,3,2,0,3,0]⟩
def ji:=ax (aw DR.r _ rr) 3 1
def DS:Wq:=⟨DR.gt ji,"bases_by",aO 88,["book","known","claimed","number","found"],9,[11,0,1,3,0,5,50,0,0,3,0,0,0,1,3,0,4,1,7,0,1,2,3,1,0,1,3,0,3,4,0,0,0,0]⟩
def dC:=ax (aw DS.r _ rr) 4 1
def DT:Wq:=⟨DS.gt dC,"may_call",aO 78,["book","known","claimed","call","number","row","caller","over"],7,[0,5,0,0,4,0,6,50,0,0,3,5,6,50,5,0,5,51,5,0,7,1,5,5,35,0,1,11,50,0,50,1,0,0,106,4,2,6,0,3,0,7,23,1,0,2,49,0,3,4]⟩
def lM:=ax (aw DT.r _ rr) 5 3
def DU:Wq:=⟨DT.gt lM,"calls_in",aO 79,["book","known","claimed","call","number","day","row"],9,[0,6,0,0,3,1,52,6,1,51,6,4,8,50,6,5,0,0,30,0,1,3,0,0,1,2,3,4]⟩
def jj:=ax (aw DU.r _ rr) 6 1
def DV:Wq:=⟨DU.gt jj,"calls_by",aO 80,["book","known","claimed","number","day"],10,[14,0,1,3,0,0,5,0,1,2,3,4,0,41,0,1,0,1,2,3,0,4,5,0]⟩
def lN:=ax (aw DV.r _ rr) 5 0
def DW:Wq:=⟨DV.gt lN,"is_fit",aO 89,["book","known","claimed","number","day"],11,[32,0,1,3,8,52,0,0,3,4,0,0,5,101,0,0,1,2,3,4]⟩
def mQ:=ax (aw DW.r _ rr) 5 0
def zh:Wq:=⟨DW.gt mQ,"links",aO 90,["book","known","day","claimed","found","number"],12,[1,3,19,0,1,0,4,0,0,0,41,0,1,5,16,0,1,5,0,0,1,3,5,2,2,4,5,4,0,1,3,5,5]⟩
abbrev JB:=aw (zh.b [4] [16,0,1,5,0,0,1,3,5,2,2,4,5,4,0,1,3,5]) _ rr
def mR:=ax (aw zh.r _ rr) 3 3
def DX:Wq:=⟨zh.gt mR,"bears",aO 91,["base","among"],0,[0,5,0,0,20,0,0,1]⟩
def pC:=ax (aw DX.r _ rr) 2 0
def zi:Wq:=⟨DX.gt pC,"stood",aO 92,["found","stands","number","resting"],1,[0,1,0,0,6,0,2,3,106,1,1,0,3,0,0,1,1,1,2,2]⟩
abbrev JD:=aw (zi.b [2] [106,1,1,0,3,0,0,1,1,1,2]) _ rr
def pD:=ax (aw zi.r _ rr) 1 3
def DY:Wq:=⟨zi.gt pD,"standing",aO 93,["book","known","day"],13,[0,107,0,2,0,1,2]⟩
def lO:=ax (aw DY.r _ rr) 3 0
def DZ:Wq:=⟨DY.gt lO,"first_bearer",aO 94,["resting","stands"],1,[0,0,1,1,0,0,2,0,1,0]⟩
def dU:=ax (aw DZ.r _ rr) 2 0
def zj:Wq:=⟨DZ.gt dU,"chain",aO 95,["book","known","day","number","found","stands","told","bearer"],13,[0,4,4,0,1,2,0,5,2,4,20,3,5,0,0,6,3,0,7,0,1,4,3,5,1000,1,0,7,0,6,0,7,0,7,0,1,4,0,7,5,0,6,0,7,0,142,6]⟩
abbrev zk:=aw (zj.b [10] [0,6,0,7,0,7,0,1,4,0,7,5]) _ rr
def mS:=ax (aw zj.r _ rr) 4 4
def Ea:Wq:=⟨zj.gt mS,"is_begun",aO 96,["resting","first"],0,[0,4,1,0,0,0,5,0,0,0,0]⟩
def jk:=ax (aw Ea.r _ rr) 2 0
def Eb:Wq:=⟨Ea.gt jk,"is_linked",aO 97,["resting","ahead"],0,[0,4,1,0,0,0,1,0,0,0,0]⟩
def gX:=ax (aw Eb.r _ rr) 2 0
def Ec:Wq:=⟨Eb.gt gX,"is_chain",aO 98,["book","known","day","numbers","found"],13,[0,4,7,0,1,2,3,101,3,102,1,4,0,3,20,0,1,0,1,1,4,0,3,0,3,0,0,102,1,4,4,3,3,0,1,2,1,0]⟩
def jl:=ax (aw Ec.r _ rr) 4 1
def Ed:Wq:=⟨Ec.gt jl,"_law_cell",aO 100,["_law_script","_law_k","_law_number"],0,[3,1,101,0,0,0,0,1,0,2,1,3,1,8,101,0,0,2,1,1,3,0,0,4,3,1,101,0,3,3,1,1,0,4,5,2,2]⟩
def qZ:=ax (aw Ed.r _ rr) 2 1
def zm:Wq:=⟨Ed.gt qZ,"_law_names",aO 101,["_law_cell_here","_law_letters","_law_base","_law_at","_law_names_here","_law_k","_law_name"],0,[0,1,2,2,1,0,2,1,4,0,0,1,4,6,2,1,3,0,0,3,4,6,0,101,2,0,4,0,1,5,0,6,108,2,0,6,3,0,1,4,1,6,0,3,5,0,4,1,6,5]⟩
abbrev B6:=aw (zm.b [8] [0,6,108,2,0,6,3,0,1,4,1,6,0,3,5,0,4,1,6]) _ rr
def o0:=ax (aw zm.r _ rr) 1 6
def Ee:Wq:=⟨zm.gt o0,"_law_giver",aO 102,["_law_rows_here","_law_cell_here","_law_names_here","_law_some"],0,[3,0,0,0,4,0,0,0,0,0,0,8,4,1,0,0,3,4,6,1,101,3,0,0,2,4,6,1]⟩
def kM:=ax (aw Ee.r _ rr) 3 1
def Ef:Wq:=⟨Ee.gt kM,"_law_sealed",aO 103,["_law_rows_here","_law_word","_law_day","_law_cell_here","_law_names_here","_law_by","_law_matters_here","_law_stretch_here","_law_person","_law_changes"],1,[0,5,0,0,3,4,0,6,0,4,6,3,0,7,0,2,1,2,1,2,4,6,3,5,1,0,8,0,4,4,1,1,2,4,5,4,6,3,0,2,5,8,6,7,0,4,1,6,2,4,6,3,5,1,0,2,5,6,7,0,0,4,4,6,3,0,4,0,4,5,1,0,9,4,6,3,0,4,0,2,5,6,7,4,6,3,1,101,0,9,0,1,2,5,4,6,3,1,101,0]⟩
def lP:=ax (aw Ef.r _ rr) 5 5
def Eg:Wq:=⟨Ef.gt lP,"_law_row",aO 104,["_law_rows_here","_law_cell_here","_law_names_here","_law_sorts","_law_word","_law_day","_law_noted","_law_left","_law_by"],2,[0,3,0,3,1,3,0,4,0,3,4,1,0,5,1,6,101,0,4,6,1,0,6,1,5,0,4,6,1,0,7,6,1,4,4,0,6,0,0,4,5,7,2,5,4,0,8,1,0,7,2,0,6,5,8,0,2,0,2,4,6,7,1,5,4,6,7,5,4,0,6,5,1,0,7,2,0,2,0,2,4,6,7,5,4,0,6,5,0,2,1,4,6,7,0,2,4,6,7,0,6,4,5,0,2,4,6,7]⟩
def wS:=ax (aw Eg.r _ rr) 3 6
def zn:Wq:=⟨Eg.gt wS,"_law_rows",aO 105,["_law_script","_law_cell_here","_law_names_here","_law_rows_here","_law_k"],3,[0,1,4,0,0,2,3,4,0,0,3,0,2,0,4,1,0,4,6,1,0,3,0,2,0,2,5,4,6,1,0,3,0,2,0,1,0,109,1,6,101,0,4,6,1,4,0,3,0,3,4,4,0,1,4,7,2,4]⟩
abbrev ur:=aw (zn.b [10] [0,3,0,3,4,4,0,1,4,7,2]) _ rr
def ra:=ax (aw zn.r _ rr) 1 4
def Eh:Wq:=⟨zn.gt ra,"holder",aO 72,["book","known","office","day","root"],11,[0,4,0,54,0,1,2,2,4,0,0,43,34,0,1,4,3]⟩
def mT:=ax (aw Eh.r _ rr) 4 1
def zo:Wq:=⟨Eh.gt mT,"_law_heads",aO 108,["_law_rows_here","_law_book","_law_first","_law_second","_law_found","_law_noted","_law_deed"],12,[0,4,0,0,0,0,5,6,5,0,6,5,0,1,0,6,0,0,0,0,3,0,0,0,0,3,2,0,4,6,5]⟩
abbrev B7:=aw (zo.b [2] [5,0,6,5,0,1,0,6,0,0,0,0,3,0,0,0,0,3,2,0,4,6]) _ rr
def o3:=ax (aw zo.r _ rr) 4 3
def Ei:Wq:=⟨zo.gt o3,"_law_matters",aO 106,["_law_deed"],0,[0,0,0,1,110,5,0,0]⟩
def gY:=ax (aw Ei.r _ rr) 1 0
def Ej:Wq:=⟨Ei.gt gY,"_law_stretch",aO 107,["_law_deed"],0,[0,0,0,1,110,5,0,0]⟩
def jU:=ax (aw Ej.r _ rr) 1 0
def Ek:Wq:=⟨Ej.gt jU,"_law_link",aO 109,["_law_rows_here","_law_ahead","_law_number","_law_leave","_law_deed"],2,[0,3,0,0,0,1,0,4,0,0,0,2,11,0,3,1,0,4,2,0,5,0,4,0,5,0,4,1,1,0,3,1,0,3,1,0,3,0,4,51,0,4,0,3,0,34,0,3,1,4,29,0,4,0,3,0,0,1,0,4,3,0,4,0,3]⟩
def iL:=ax (aw Ek.r _ rr) 3 2
def zp:Wq:=⟨Ek.gt iL,"_law_within",aO 111,["_law_rows_here","_law_found","_law_root","_law_k","_law_deed"],1,[0,1,101,1,3,0,4,0,0,0,0,1,3,1,0,4,35,0,2,2,4,0,5,0,4,8,0,4,0,0,2,3,0,0]⟩
abbrev zq:=aw (zp.b [0] [0,4,0,0,0,0,1,3,1,0,4,35,0,2,2,4,0,5,0,4,8,0,4,0,0,2,3,0]) _ rr
def jm:=ax (aw zp.r _ rr) 3 2
def zr:Wq:=⟨zp.gt jm,"_law_walked",aO 110,["_law_rows_here","_law_book","_law_found","_law_number","_law_k","_law_heads_here"],13,[100,2,84,3,101,2,1,0,2,3,1,143,2,101,2,0,0,1,101,2,4,1,0,0,2,0,4,0,2,4,0,0,5,4,0,1,0,2,0,2,5,2,0,2,0,5,0,1,2,0,0,0,1,0,0,0,0,0,2,1,5]⟩
abbrev zu:=aw (zr.b [2] [1,0,0,2,0,4,0,2,4,0]) _ rr
def lQ:=ax (aw zr.r _ rr) 4 2
def zv:Wq:=⟨zr.gt lQ,"law",aO 112,["_law_script","_law_rows_here","_law_book","_law_k","_law_day","_law_some","_law_fallen","_law_number","_law_found","_law_told","_law_spoiled"],14,[0,1,7,0,0,2,66,108,1,0,1,3,0,4,4,12,0,1,3,0,5,18,2,4,6,1,5,2,101,1,9,0,1,0,0,1,101,1,7,0,8,16,2,4,7,1,2,8,9,7,5,0,6,8,0,1,2,8,7,0,0,9,13,2,4,108,8,100,9,81,9,0,0,10,108,8,0,10,1,4,7,0,101,8,0,6,4,7,101,6,13,2,4,10,13,2,4,8,0,0]⟩
abbrev wT:=aw (zv.b [4,6] [0,8,16,2,4,7,1,2,8,9,7,5,0,6,8,0,1,2,8,7,0,0,9,13,2,4,108,8,100,9,81,9,0,0,10,108,8,0,10,1,4,7,0,101,8,0,6,4,7,101,6,13,2,4,10,13,2,4,8,0]) _ rr
abbrev Sb:=aw (zv.b [4] [0,4,4,12,0,1,3,0,5,18,2,4,6,1,5,2,101,1,9,0,1,0,0,1,101,1,7,0,8,16,2,4,7,1,2,8,9,7,5,0,6,8,0,1,2,8,7,0,0,9,13,2,4,108,8,100,9,81,9,0,0,10,108,8,0,10,1,4,7,0,101,8,0,6,4,7,101,6,13,2,4,10,13,2,4,8,0]) _ rr
def F_law:=ax (aw zv.r _ rr) 1 10
end Lw
namespace DL
open PySem L2
theorem gD:∀(n m:Nat)(d:D),n<=m->aY n d=true->aY m d=true
 |n,m,.non,_,_=>by simp
 |n,m,.bl _,_,_=>by simp
 |n,m,.int _,_,_=>by simp
 |n,m,.str _,_,_=>by simp
 |n,m,.ty _,_,h=>by cases n<;>simp at h
 |n,m,.dk _ _,_,h=>by simp at h
 |n,m,.dt _ _,_,h=>by simp at h
 |0,m,.tup _,_,h=>by simp at h
 |0,m,.lst _,_,h=>by simp at h
 |n+1,0,_,h,_=>by lia
 |n+1,m+1,.tup ds,hl,h=>by
  simp [aY,all_eq_true]at h |-;exact λd hd=>gD n m d N9 (h d hd)
 |n+1,m+1,.lst ds,hl,h=>by
  simp [aY,all_eq_true]at h |-;exact λd hd=>gD n m d N9 (h d hd)
def JF (I:Nat->Env->Prop)(ok:Nat->Bool)(ds:LD)(M:Env)(h0:I 0 M)
  (step:∀i x ρ,ds[i]? = some x->I i ρ->∃O,tg x ρ=some O/\((ok i=true/\∃ρ',g O=some (.nx ρ')/\I (i+1) ρ')\/(ok i=false/\g O=some (.rt d b)))):
  ((∀i,i<ds.length->ok i=true)/\∃ρ',fH tg g ds M=some (.nx ρ')/\I ds.length ρ')\/((∃i,i<ds.length/\ok i=false)/\fH tg g ds M=some (.rt d b)):=by
 have key:∀(es:LD)(i:Nat)(ρ:Env),ds.drop i=es->i+es.length=ds.length->I i ρ ->
   ((∀j,i<=j->j<ds.length->ok j=true)/\∃ρ',fH tg g es ρ=some (.nx ρ')/\I ds.length ρ')\/((∃j,j<ds.length/\ok j=false)/\fH tg g es ρ=some (.rt d b)):=by
  intro es;induction es with
  |nil=>
   intro i ρ e hl h;refine .inl ⟨λj h1 h2=>?_,ρ,by rw[HE],by rw[<-hl];exact h⟩;simp at hl;lia
  |cons x es k=>
   intro i ρ e hl h;have hd:ds[i]? = some x:=by
    have:(ds.drop i)[0]? = some x:=by rw[e];rfl
    grind
   have he:ds.drop (i+1)=es:=by rw[<-List.drop_drop,e];rfl
   have hi:=(vV hd).1;obtain⟨O,h1,⟨h2,ρ',h3,h4⟩|⟨h2,h3⟩⟩:=step i x ρ hd h
   .rcases k (i+1) ρ' he (by simp at hl;lia) h4 with⟨c,ρ2,f,a3⟩|⟨c,f⟩
    .grind[tG]
    simp_all
   .exact .inr ⟨⟨i,hi,h2⟩,by rw[tG,h1];simp only[vJ,h3]⟩
 rcases key ds 0 M X9 X9 h0 with⟨c,f⟩|a
 .simp_all
 .exact .inr a
end DL
namespace DL
@[simp] abbrev sF (d:D):OB:=some (d,false)
@[simp] noncomputable abbrev lT (ds:LD):OB:=some (.lst ds,true)
@[simp] noncomputable abbrev sI (x:Int):OB:=some (.int x,false)
@[simp] noncomputable abbrev sS (x:PySem.Str):OB:=some (.str x,false)
@[simp] noncomputable abbrev sT (x:LD):OB:=some (.tup x,false)
@[simp] noncomputable abbrev sL (x:LD):OB:=some (.lst x,false)
@[simp] noncomputable abbrev sO (x:Bool):OB:=some (.bl x,false)
def bY {r:OB}{d:D}{b:Bool}(h:Yr r d b=true:=by decide +kernel):r=some (d,b):=wO h
def cG {p q:Prop}[Decidable p](h:p)(n:decide p=false:=by decide +kernel):q:=absurd h (of_decide_eq_false n)
end DL
namespace Lw
open PySem DL L2
def sv (d:D)(r:LD):ly (d::r) 0=some d:=by have:=jb (xs:=d::r) (j:=0) X9;simpa using this
def sV (d e:D)(r:LD):ly (d::e::r) 1=some e:=by have:=jb (xs:=d::e::r) (j:=1) X9;simpa using this
def Z6 (d e f:D)(r:LD):ly (d::e::f::r) 2=some f:=by have:=jb (xs:=d::e::f::r) (j:=2) X9;simpa using this
noncomputable def cf (k:Str):Bool:=decide (k = "death") || decide (k = "lost") || decide (k = "found")
noncomputable def c9 (k:Str):Bool:=decide (k = "chosen") || decide (k = "heir") || decide (k = "leave") || decide (k = "paper") || decide (k = "like") || decide (k = "copy") || decide (k = "call")
structure DeedP (kind:Str)(aj:List D):Prop where
 flat:aX aj=true
 plain:aj.all (aY 5)=true
 three:cf kind=true->∃(day:Int)(p:Str),aj=[.int day,.str p]
 slg:c9 kind=true->∃(day:Int)(p:Str)(r:List D),aj=.int day::.str p::r
noncomputable def row (h:Int)(kind:Str)(aj:LD):D:=.tup [.int h,.tup (.str kind::aj)]
def rb (r:D):Prop:=∃h kind aj,r=row h kind aj/\DeedP kind aj
def rb.flat (h:rb r):aR r=true:=by obtain⟨a,k,aj,rfl,dp⟩:=h;simp[row,dp.flat]
theorem b8 (h:∀d∈ds,aR d=true):aX ds=true:=by
 induction ds with
 |nil=>rfl
 |cons d r M=>simp_all
def cN (zs:LS):aX (zs.map D.str)=true:=by
 induction zs with
 |nil=>rfl
 |cons a l M=>simp[M]
def aT:D->Int
 |.tup (.int h::_)=>h
 |_=>0
noncomputable def kindOf:D->Str
 |.tup [_,.tup (.str k::_)]=>k
 |_=>("" : Str)
noncomputable def a8:D->Int
 |.tup [_,.tup (_::.int d::_)]=>d
 |_=>0
noncomputable def ut (p:Str)(day:Int):LD->Bool
 |[.int d,.str q]=>decide (q=p) && decide (d<=day)
 |_=>false
def told (ws:LS)(p:Str)(day:Int):D->Bool
 |.tup [_,.tup (.str kind::aj)]=>decide (kind∈ws) && ut p day aj
 |_=>false
def cW (h:Int)(kind:Str)(aj:LD):bo [row h kind aj]=sS kind:=ah rr (ai (by simp[row,sV,sv]))
def jV (h:cf k=true):k = "death" \/ k = "lost" \/ k = "found":=by
 unfold cf at h;lia
def lR (h:c9 k=true):k = "chosen" \/ k = "heir" \/ k = "leave" \/ k = "paper" \/ k = "like" \/ k = "copy" \/ k = "call":=by
 unfold c9 at h;lia
def N6 (h:cf k=true\/c9 k=true):lG bT (.str k) (.str "day")=sI 0:=by
 rcases h with h|h
 .rcases jV h with rfl|rfl|rfl<;>exact bY
 .rcases lR h with rfl|rfl|rfl|rfl|rfl|rfl|rfl<;>exact bY
def B8 (h:cf k=true):lG bT (.str k) (.str "person")=sI 1:=by
 rcases jV h with rfl|rfl|rfl<;>exact bY
def JG (h:cf k=true\/c9 k=true):ko (.str k) (.str "root")=sO false:=by
 rcases h with h|h
 .rcases jV h with rfl|rfl|rfl<;>exact bY
 .rcases lR h with rfl|rfl|rfl|rfl|rfl|rfl|rfl<;>exact bY
def ba {h:Int}{k:Str}{aj:LD}{part:Str}{i:Nat}{d:D}(hi:lG bT (.str k) (.str part)=sI i)(hd:aj[i]? = some d):av [row h k aj,.str part]=some (d,false):=by
 refine ah rr (ai ?_);refine aJ (.tup (.str k::aj)) (.int (1+i)) (by simp[row,sV]) (aJ _ _ rr (aJ _ _ (a0 _ rr (cW _ _ _)) rr hi) X9) ?_;have M:=(vV hd).1;have:ly (.str k::aj) (1+(i:Int))=some d:=by
  have:=jb (xs:=(.str k:D)::aj) (j:=i+1) I9;grind
 simp[this]
def rd {h:Int}{k:Str}{aj:LD}{d:Int}{r:LD}(hk:cf k=true\/c9 k=true)(hr:aj=.int d::r):bp [row h k aj]=sI d:=by
 subst hr;refine ah rr (am (bB (aJ _ _ (a0 _ rr (cW _ _ _)) rr (JG hk))) (ai (a0 _ rr (ba (N6 hk) rr))))
def mU (k:Str)(ws:LS):GQ (.str k) (ws.map .str)=decide (k∈ws):=by
 induction ws with
 |nil=>simp[GQ]
 |cons w ws M=>
  grind[GQ,yf]
def kO (ws:LS):(ws.map D.str).all gO=true:=by
 simp
def iM (k:Str)(ws:LS):Fw (.str k) (.tup (ws.map .str))=sO (decide (k∈ws)):=by
 simp only[Fw,fj,vJ,mU];rw[if_pos ⟨rr,kO ws⟩]
def JH (hr:rb r)(ws:LS)(hw:∀w∈ws,cf w=true)(p:Str)(day:Int):pA [r,.tup (ws.map .str),.str p,.int day]=sO (told ws p day r):=by
 obtain⟨h,kind,aj,rfl,dp⟩:=hr;have M:f2 _ (fA _ (fV 0 ay)) (aq 1) [some (row h kind aj,false),sF _,sS p,sI day]=sF _:=
  aJ _ _ (a0 _ rr (cW _ _ _)) rr (iM _ ws)
 have O:told ws p day (row h kind _)=(decide _ && ut p _ aj):=rr;refine ah rr (ai (bP M λhk=>?_));have h3:=hw _ (xG hk);obtain⟨d,q,rfl⟩:=dp.three h3;refine bP (b1:=false) ?_ λ_=>?_
 .exact aJ _ _ (a0 _ rr (ba (B8 h3) rr)) rr X9
 .exact aJ _ _ (a0 _ rr (rd (.inl h3) rr)) rr X9
def JJ (ds:LD):tL ds=ds.zipIdx.map λx=>.tup [.int x.2,x.1]:=by
 unfold tL;apply ext_getElem?;intro i;simp;cases ds[i]?<;>simp
noncomputable def ag (aa:LD)(ae:Int):List (D×Nat):=aa.zipIdx.filter λx=>decide (aT x.1<=ae)
def jW (aa:LD)(hr:∀r∈aa,rb r)(hl:aa.length<=1000)(ae:Int):dS [.tup aa,.int ae]=lT ((ag aa ae).map λx=>.int x.2):=by
 have hc:=de (fi:=Im (aq 0)) (nT:=2) (cap:=[1]) (tg:=Ic [0,1]) (c:=bJ (f2 ON (ft 1 0) (aq 2))) (fe:=aq 0) (ρ:=[sT aa,sI ae]) aa.zipIdx (λx=>.tup [.int x.2,x.1]) (λx=>decide (aT x.1<=ae)) (λx=>.int x.2)
  (by simp[JJ]) I9 λx hx=>by
   obtain⟨h,kind,aj,e,_⟩:=hr _ (List.fst_mem_of_mem_zipIdx hx);refine⟨_,rr,bB ?_,λ_=>⟨false,by simp[cj]⟩⟩;simp[cj,e,row,sv,aT]
 exact ah rr (ai hc)
def pw (aa:LD)(ae:Int)(ws:LS)(p:Str)(day:Int):List (D×Nat):=(ag aa ae).filter λx=>told ws p day x.1
def El (h:x∈pw aa ae ws p day):aa[x.2]? = some x.1/\told ws p day x.1=true:=by
 obtain⟨h1,h2⟩:=vN h;exact⟨(List.mk_mem_zipIdx_iff_getElem? ).mp (vN h1).1,h2⟩
def bi {aa:LD}{i:Nat}{r:D}(h:aa[i]? = some r):ly aa (i:Int)=some r:=by
 obtain⟨M,e⟩:=vV h;rw[jb M,e]
def N7 (aa:LD)(ae:Int)(ws:LS)(p:Str)(day:Int):(pw aa ae ws p day).length<=aa.length:=by
 have h1:=vM (λx=>told ws p day x.1) (ag aa ae);have h2:=vM (λx=>decide (aT x.1<=ae)) aa.zipIdx;rw[length_zipIdx]at h2;exact vR h1 h2
def wU (aa:LD)(hr:∀r∈aa,rb r)(hl:aa.length<=1000)(ae:Int)(ws:LS)(hw:∀w∈ws,cf w=true)(p:Str)(day:Int):
  kK [.tup aa,.int ae,.tup (ws.map .str),.str p,.int day]=lT ((pw aa ae ws p day).map λx=>.int x.2):=by
 have hc:=de (fi:=df _) (nT:=1) (cap:=[2,3,4,0]) (tg:=fz 0) (c:=bJ (fA pA (ak (f2 dI (aq 4) (aq 0)) (fV 1 (fV 2 (fV 3 ay)))))) (fe:=aq 0)
  (ρ:=[sT aa,sF _,sT (ws.map .str),sS p,sI day]) (ag aa ae) _ _ (λx=>.int x.2)
  (by
   show(fA dS (fV 0 (fV 1 ay)) _).bind _=_;rw[a0 _ rr (jW aa hr hl ae)];rfl) (by have:=vM (λx:D×Nat=>decide (aT x.1<=ae)) aa.zipIdx;rw[length_zipIdx]at this;exact vR this N9) λx hx=>by
   have M:=(List.mk_mem_zipIdx_iff_getElem? (x:=x.1) (i:=x.2)).mp (vN hx).1;refine⟨_,rr,bB (a0 _ ?_ (JH (hr _ (vL M)) ws hw p day)),λ_=>⟨false,by simp[cj]⟩⟩;have ha:=bi M;simp[cj,ha]
 exact ah rr (ai hc)
def kA (x:D×Nat):List At:=[.i (a8 x.1),.i x.2]
def bF (a b:D×Nat):Bool:=decide (a8 a.1<a8 b.1\/(a8 a.1=a8 b.1/\(a.2:Int)<b.2))
def gE:D×Nat->List (D×Nat)->D×Nat
 |b,[]=>b
 |b,x::r=>if bF b x=true then gE x r else gE b r
def Pk:List (D×Nat)->Option (D×Nat)
 |[]=>none
 |x::r=>some (gE x r)
def NA (a b c d:Int):aU [.i a,.i b] [.i c,.i d]=some (decide (a<c\/(a=c/\b<d))):=by
 rw[aU];by_cases h:a=c
 .simp_all[aU]
 simp_all
def wV (a b:D×Nat):aU (kA a) (kA b)=some (bF a b):=NA _ _ _ _
def wW (l:List (D×Nat)):da (l.map kA)=true:=by
 simp_all[da,wV]
theorem o4:∀(r:List (D×Nat))(b:D×Nat),oM (kA b,.int b.2) (r.map λx=>(kA x,D.int x.2))=.int (gE b r).2
 |[],b=>rr
 |x::r,b=>by
  rw[uY,oM,gE];rw[wV];by_cases h:bF b x=true
  .rw[if_pos h,if_pos (by rw[h])];exact o4 r x
  .rw[if_neg h,if_neg (by simpa using h)];exact o4 r b
theorem re:∀(r:List (D×Nat))(b:D×Nat),gE b r∈b::r
 |[],b=>by simp[gE]
 |x::r,b=>by
  rw[gE];split
  .exact mZ _ (re r x)
  .rcases vP (re r b)with h|h
   .rw[h];exact mX
   simp_all
theorem gF {α:Type}{f:D->Option D}{g h:α->D}:∀(l:List α),(∀x∈l,f (g x)=some (h x))->jF f (l.map g)=some (l.map h)
 |[],_=>rr
 |x::l,hx=>by
  rw[uY,jF,hx x mX,gF l λy hy=>hx y (mZ _ hy)];rfl
theorem fP {α:Type}{g:α->D}{h:α->List At}:∀(l:List α),(∀x∈l,Bh (g x)=some (h x))->dQ (l.map g)=some (l.map h)
 |[],_=>rr
 |x::l,hx=>by
  rw[uY,dQ,hx x mX,fP l λy hy=>hx y (mZ _ hy)];rfl
def oV:LS:=[("lost" : Str),"found"]
def oW:∀w∈oV,cf w=true:=by
 intro w hw;rcases vP hw with rfl|hw
 .decide +kernel
 .rcases vP hw with rfl|hw
  .decide +kernel
  simp_all
def Em (aa:LD)(ae:Int)(p:Str)(day:Int):Bool:=match Pk (pw aa ae oV p day) with
 |none=>true
 |some b=>decide (kindOf b.1 = "found")
def rf (hw:∀w∈ws,cf w=true)(hr:rb r)(O:told ws p day r=true):∃h k d,r=row h k [.int d,.str p]/\cf k=true/\k∈ws/\d<=day:=by
 obtain⟨h,kind,aj,rfl,dp⟩:=hr;have M:(decide _ && ut p _ _)=true:=O;rw[vC]at M;have hm:=xG M.1;obtain⟨d,q,rfl⟩:=dp.three (hw _ hm);have hq:(decide _ && decide _)=true:=M.2;rw[vC]at hq;have:=xG hq.1;subst this;exact⟨h,kind,d,rr,hw _ hm,hm,xG hq.2⟩
def En {aa:LD}{i:Nat}{h d:Int}{k p:Str}(M:aa[i]? = some (row h k [.int d,.str p]))(h3:cf k=true):gp [.tup aa,.int i]=sT [.int d,.int i]:=by
 have ha:=bi M;refine ah rr (ai (a0 _ (a7 (a0 [row h k [.int d,.str p]] (by simp[ha]) (rd (.inl h3) rr)) rr) s9))
def NB (aa:LD)(hr:∀r∈aa,rb r)(hl:aa.length<=1000)(ae:Int)(p:Str)(day:Int):lK [.tup aa,.int ae,.str p,.int day]=sO (Em aa ae p day):=by
 have g:=wU aa hr hl ae oV oW p day;have c:=N7 aa ae oV p day;have key:∀x∈pw aa ae oV p day,∃h k d,aa[x.2]? = some (row h k [.int d,.str p])/\x.1=row h k [.int d,.str p]/\cf k=true:=λx hx=>by
  obtain⟨O,f⟩:=El hx;obtain⟨h,k,d,e,h3,_⟩:=rf oW (hr _ (vL O)) f;exact⟨h,k,d,by rw[O,e],e,h3⟩
 unfold Em;generalize i:pw aa ae oV p day=sel at g key c |-;have M:fA kK (fV 0 (fV 1 (ak (fA dn (ak (fS "lost") (ak (fS "found") ay))) (fV 2 (fV 3 ay))))) [sT aa,sI ae,sS p,sI day,none]=lT (sel.map λx=>.int x.2):=
  a0 _ (by simp[oV,sizeLine]) g
 have a:aX (sel.map λx=>D.int x.2)=true:=b8 λd hd=>by obtain⟨x,_,rfl⟩:=vO hd;rfl
 cases sel with
 |nil=>exact ah rr (bx M a (aP (bB X9) (ai rr)))
 |cons x r=>
  refine ah rr (bx M a (am (bB I9) (ai ?_)));obtain⟨h,k,d,O,e,h3⟩:=key (gE x r) (re r x);have hb:kindOf (gE x r).1=k:=by rw[e];rfl
  show _=some (D.bl (decide _),false);rw[hb];refine aJ (.str k) (.str "found") (a0 [row h k [.int d,.str p]] (a7 (d:=row h k [.int d,.str p]) (b:=false) (aJ (.tup aa) (.int (gE x r).2) rr ?_ (by simp[bi O])) rr) (cW _ _ _)) rr X9;have hm:∀ρ:DL.Env,ρ[0]? = some (sT aa)->jF (yM [0] (fA gp (fV 1 (fV 0 ay))) ρ) ((x::r).map λx=>D.int x.2)=some ((x::r).map λx=>.tup [.int (a8 x.1),.int x.2]):=λρ h0=>
   gF (x::r) λy hy=>by
    obtain⟨h,k,d,O,e,h3⟩:=key y hy;have hd:a8 y.1=d:=by rw[e];rfl
    rw[hd];show(fA gp _ _).map _=_;rw[a0 [.tup aa,.int y.2] (by simp[cj,h0]) (En O h3)];rfl
  have hk:dQ ((x::r).map λx=>D.tup [.int (a8 x.1),.int x.2])=some ((x::r).map kA):=fP (x::r) λy _=>rr;have hz:((x::r).map kA).zip ((x::r).map λx=>D.int x.2)=(kA x,.int x.2)::r.map λx=>(kA x,D.int x.2):=by
   rw[zip_map'];rfl
  unfold CC RA;show((some _).bind _)=_;simp only[vJ];rw[hm _ rr];simp only[vJ];rw[hk];simp only[vJ];rw[if_pos (wW _),hz];simp only[o4]
def dW:LS:=[("death" : Str)]
def jn:∀w∈dW,cf w=true:=by
 intro w hw;rcases vP hw with rfl|hw
 .decide +kernel
 simp_all
def rg (aa:LD)(ae:Int)(p:Str)(day:Int):Bool:=(pw aa ae dW p day).isEmpty
def zw (aa:LD)(hr:∀r∈aa,rb r)(hl:aa.length<=1000)(ae:Int)(p:Str)(day:Int):pB [.tup aa,.int ae,.str p,.int day]=sO (rg aa ae p day):=by
 have M:=wU _ hr hl ae _ jn p day;unfold rg;generalize pw _ _ _ p _=O at M |-;refine ah rr (ai (aJ (.int ((O.map λx=>D.int x.2).length:Nat)) _ ?_ rr ?_))
 .exact a0 _ (a7 (a0 _ (by simp[sizeLine,dW]) M) rr) eY
 .cases O<;>simp
  lia
noncomputable def cH:D->Str
 |.tup [_,.tup (_::_::.str p::_)]=>p
 |_=>("" : Str)
noncomputable def uu:LS:=[("chosen" : Str),"heir","leave","paper","like","copy","call"]
theorem lS (k:Str):c9 k=decide (k∈uu):=by
 simp_all[c9,uu,Bool.or_assoc]
def B9:gh=.tup (uu.map .str):=rfl
def oZ (k:Str)(ws:LS):f7 (.str k) (.tup (ws.map .str))=sO (!decide (k∈ws)):=by
 simp only[f7,fj,vJ,mU];rw[if_pos ⟨rr,kO ws⟩]
def JL (h:c9 k=true):lG bT (.str k) (.str "by")=sI 1:=by
 rcases lR h with rfl|rfl|rfl|rfl|rfl|rfl|rfl<;>exact bY
def jo (aa:LD)(ae:Int)(r:D):Bool:=(decide (aT r<=ae) && c9 (kindOf r)) && (rg aa ae (cH r) (a8 r) && Em aa ae (cH r) (a8 r))
def jX {aa:LD}{i:Nat}{h:Int}{kind:Str}{aj:LD}(M:aa[i]? = some (row h kind aj))(ae:Int):cz [.tup aa,.int ae,.int i]=sO (decide (h<=ae)):=by
 have O:=(vV M).1;have ha:=bi M;refine ah rr (ai ?_);have:=bP (f1:=j8 ON Tl (fI 0) (aq 2) (fA hV (fV 0 ay))) (f2:=f2 ON (f2 dI (f2 dI (aq 0) (aq 2)) (fI 0)) (aq 1)) (ρ:=[sT aa,sI ae,sI i]) (q:=decide (h<=ae))
  (by
   refine(iK (z:=.int aa.length) (b3:=false) (b4:=false) (p:=true) (q:=true) rr rr X9 X9 λ_=>?_).trans rr;simp;lia) λ_=>by simp[ha,row,sv]
 exact this
def rh (aa:LD)(hr:∀r∈aa,rb r)(hl:aa.length<=1000)(ae:Int){i:Nat}{r:D}(a:aa[i]? = some r):jg [.tup aa,.int ae,.int i]=sO (jo aa ae r):=by
 obtain⟨h,kind,aj,rfl,dp⟩:=hr r (vL a);have hk:=jX a ae;have ha:=bi a;have O:∀(ρ:DL.Env),f2 dI (aq 0) (aq 2) ρ=some (row h kind aj,false)->fA bo (ak _ ay) ρ=sS kind:=λρ e=>a0 [row h kind aj] (a7 e rr) (cW _ _ _);have M:f2 dI (aq 0) (aq 2) [sT aa,sI ae,sI i,none,none]=some (row h kind aj,false):=by simp[ha]
 have hc:(jw (lh (bJ (fA cz (fV 0 (fV 1 (fV 2 ay)))))) (bJ (f2 f7 (fA bo (ak (f2 dI (aq 0) (aq 2)) ay)) (fC gh)))) [sT aa,sI ae,sI i,none,none]=some (!decide (h<=ae) || !c9 kind):=by
  refine bc (aK (bB (a0 _ rr hk))) λ_=>bB (aJ (.str kind) gh (O _ M) rr ?_);rw[B9,lS];exact oZ kind uu
 have hs:jo aa ae (row h kind aj)=((decide (h<=ae) && c9 kind) && (rg aa ae (cH (row h kind aj)) (a8 (row h kind aj)) && Em aa ae (cH (row h kind aj)) (a8 (row h kind aj)))):=rr;cases hb:(decide (h<=ae) && c9 kind) with
 |false=>
  rw[hs,hb];refine ah rr (aP (hc.trans ?_) (ai rr));rw[<-Bool.not_and,hb];rfl
 |true=>
  rw[hs,hb];rw[vC]at hb;obtain⟨day,p,c,rfl⟩:=dp.slg hb.2;rw[Bool.true_and];refine ah rr (am (hc.trans (by rw[hb.1,hb.2];rfl)) (fu (.str p) (a0 _ (a7 M rr) (ba (i:=1) (JL hb.2) rr)) rr (fu (.int day) (a0 [row h kind (.int day::.str p::c)] (a7 (b:=false) (by simp[ha]) rr) (rd (.inr hb.2) rr)) rr (ai ?_))));exact bP (b1:=false) (a0 _ X9 (zw aa hr hl ae p day)) λ_=>a0 _ X9 (NB aa hr hl ae p day)
inductive Cd:Str->List D->Prop
 |root (o r:Str) (m f:Int):Cd ("root" : Str) [.str o,.int m,.int f,.str r]
 |named (d:Int) (o p:Str):Cd ("named" : Str) [.int d,.str o,.str p]
 |chosen (d:Int) (b o p:Str) (s:Int):Cd ("chosen" : Str) [.int d,.str b,.str o,.str p,.int s]
 |heir (d:Int) (b o p:Str):Cd ("heir" : Str) [.int d,.str b,.str o,.str p]
 |three (k:Str) (hk:k = "death" \/ k = "lost" \/ k = "found") (d:Int) (p:Str):Cd k [.int d,.str p]
 |other (k:Str) (hk:k = "leave" \/ k = "paper" \/ k = "like" \/ k = "copy" \/ k = "call") (d:Int) (b:Str) (r:List D) (hf:aX r=true) (hp:r.all (aY 5)=true):Cd k (.int d::.str b::r)
def Cd.deed (h:Cd k r):DeedP k r:=by
 cases h with
 |root o rl m f=>exact⟨rr,X9,λh=>cG h,λh=>cG h⟩
 |named d o p=>exact⟨rr,X9,λh=>cG h,λh=>cG h⟩
 |chosen d b o p s=>exact⟨rr,X9,λh=>cG h,λ_=>⟨d,b,_,rr⟩⟩
 |heir d b o p=>exact⟨rr,X9,λh=>cG h,λ_=>⟨d,b,_,rr⟩⟩
 |three k hk d p=>exact⟨rr,X9,λ_=>⟨d,p,rr⟩,λh=>by lia⟩
 |other k hk d b r hf hp=>exact⟨by simp[hf],by simp_all,λh=>by rcases hk with rfl|rfl|rfl|rfl|rfl<;>exact cG h,λ_=>⟨d,b,r,rr⟩⟩
def wZ (r:D):Prop:=∃h k aj,r=row h k aj/\Cd k aj
def wZ.rp (h:wZ r):rb r:=by obtain⟨a,k,aj,rfl,d⟩:=h;exact⟨a,k,aj,rr,d.deed⟩
def aG (r:D):Bool:=decide (kindOf r = "root")
def Cd.day (h:Cd k r)(hk:k ≠ "root"):∃d q,r=.int d::q:=by
 cases h with
 |root=>exact absurd rr hk
 |named d=>exact⟨d,_,rr⟩
 |chosen d=>exact⟨d,_,rr⟩
 |heir d=>exact⟨d,_,rr⟩
 |three _ _ d=>exact⟨d,_,rr⟩
 |other _ _ d=>exact⟨d,_,rr⟩
def Cd.day_idx (h:Cd k r)(hk:k ≠ "root"):lG bT (.str k) (.str "day")=sI 0:=by
 cases h with
 |root=>exact absurd rr hk
 |named=>exact bY
 |chosen=>exact bY
 |heir=>exact bY
 |three _ hh=>rcases hh with rfl|rfl|rfl<;>exact bY
 |other _ hh=>rcases hh with rfl|rfl|rfl|rfl|rfl<;>exact bY
def bH (e:f ρ=some (.str a,bb))(h:decide (a=b)=x):bJ (f2 ko f (fS b)) ρ=some x:=by simp_all
def sW (r:D):D:=if aG r=true then .non else .int (a8 r)
def ir (g:wZ r):bo [r]=sS (kindOf r):=by
 obtain⟨h,k,aj,rfl,_⟩:=g;exact cW h k _
def rj (g:wZ r):bp [r]=some (sW r,false):=by
 obtain⟨h,k,aj,rfl,d⟩:=g;unfold sW;by_cases hk:k = "root"
 .have:aG (row h k aj)=true:=mf hk;rw[if_pos this];exact ah rr (aP (bH (a0 _ rr (cW _ _ _)) (mf hk)) (ai rr))
 .have:aG (row h k aj)=false:=oC hk;rw[if_neg (by rw[this];decide)];obtain⟨dd,q,rfl⟩:=d.day hk;exact ah rr (am (bH (a0 _ rr (cW _ _ _)) (oC hk)) (ai (a0 _ rr (ba (d.day_idx hk) rr))))
def eD (aa:LD):Prop:=aa.length<=60/\∀r∈aa,wZ r
def eD.rp (g:eD aa):∀r∈aa,rb r:=λr hr=>(g.2 r hr).rp
def eD.le (g:eD aa):aa.length<=1000:=vR g.1 H9
def aB (h:x∈ag aa ae):aa[x.2]? = some x.1:=by
 obtain⟨h1,_⟩:=vN h;exact List.mem_zipIdx_iff_getElem?.mp h1
theorem bI (aa:LD)(ae:Int):(ag aa ae).length<=aa.length:=by
 have:=vM (λx=>decide (aT x.1<=ae)) aa.zipIdx;rw[length_zipIdx]at this;exact this
theorem cY (aa:LD)(ae:Int):((ag aa ae).map (·.2)).Nodup:=by
 have h1:(aa.zipIdx.map (·.2)).Nodup:=by simp_all[List.nodup_range']
 exact List.Nodup.sublist (List.Sublist.map _ (filter_sublist)) h1
def cA (aa:LD)(ae:Int):List (D×Nat):=(ag aa ae).filter λx=>!aG x.1
def VJ (aa:LD)(ae:Int):List (D×Nat):=dq (λx=>bZ (kA x)) (cA aa ae)
def JM (h:bZ (kA a)=bZ (kA b)):a.2=b.2:=by
 have h:[a8 _,(a.2:Int)]=[a8 _,(b.2:Int)]:=h;lia
def NC (ha:a∈ag aa ae)(hb:b∈ag aa ae)(h:a.2=b.2):a=b:=by
 have h1:=aB ha;have h2:=aB hb;rw[h,h2]at h1;exact Prod.ext (vK h1).symm h
def pb (g:eD aa)(ae:Int):dA [.tup aa,.int ae]=lT ((VJ aa ae).map λx=>.int x.2):=by
 have hl:=g.1;have m:=bI aa ae;have O:∀x∈ag aa ae,ly aa (x.2:Int)=some x.1/\wZ x.1:=λx hx=>⟨bi (aB hx),g.2 _ (vL (aB hx))⟩;have hc:=de (fi:=df (fA dS (fV 0 (fV 1 ay)))) (nT:=1) (cap:=[0]) (tg:=fz 0) (c:=bJ (f2 qe (fA bp (ak (f2 dI (aq 1) (aq 0)) ay)) (fC .non))) (fe:=aq 0) (ρ:=[sT aa,sI ae,none]) (ag aa ae) (λx=>.int x.2) (λx=>!aG x.1) (λx=>.int x.2)
  (by
   show(fA dS (fV 0 (fV 1 ay)) _).bind _=_;rw[a0 [.tup aa,.int ae] rr (jW aa g.rp g.le ae)];rfl) N9 λx hx=>by
   obtain⟨ha,f⟩:=O x hx;refine⟨_,rr,bB (aJ (sW x.1) .non (a0 [x.1] (by simp[cj,ha]) (rj f)) rr ?_),λ_=>⟨false,by simp[cj]⟩⟩;unfold sW;split<;>simp_all
 have i:=hc;have j:aX ((cA aa ae).map λx=>D.int x.2)=true:=b8 λd hd=>by obtain⟨x,_,rfl⟩:=vO hd;rfl
 have n:(cA aa ae).length<=60:=vR (vM _ _) N9;have M:∀x∈cA aa ae,x∈ag aa ae/\aG x.1=false:=λx hx=>by
  obtain⟨h1,h2⟩:=vN hx;lia
 have hm:∀ρ:DL.Env,ρ[0]? = some (sT aa)->jF (yM [0] (fA gp (fV 1 (fV 0 ay))) ρ) ((cA aa ae).map λx=>.int x.2)=some _:=λρ h0=>
  gF (cA aa ae) λx hx=>by
   obtain⟨h1,h2⟩:=M x hx;obtain⟨ha,f⟩:=O x h1;have hd:=rj f;unfold sW at hd;rw[h2,if_neg H9]at hd;have hr:gp [.tup aa,.int x.2]=sT [.int (a8 x.1),.int x.2]:=ah rr (ai (a0 [.int (a8 x.1),.int x.2] (a7 (d:=.int (a8 x.1)) (b:=false) (a0 [x.1] (by simp[ha]) hd) rr) s9));show(fA gp _ _).map _=_;rw[a0 [.tup aa,.int x.2] (by simp[cj,h0]) hr];rfl
 have hk:dQ ((cA aa ae).map λx=>D.tup [.int (a8 x.1),.int x.2])=some ((cA aa ae).map kA):=fP _ λx _=>rr;have hz:((cA aa ae).map kA).zip ((cA aa ae).map λx=>D.int x.2)=(cA aa ae).map λx=>(kA x,D.int x.2):=by rw[zip_map']
 have k:((cA aa ae).map (·.2)).Nodup:=List.Nodup.sublist (List.Sublist.map _ (filter_sublist)) (cY aa ae);have l:((cA aa ae).map kA).length<64/\da ((cA aa ae).map kA)=true/\dP ((cA aa ae).map kA)=true/\(((cA aa ae).map kA).map bZ).Nodup:=by
  refine⟨by rw[vI];lia,wW _,?_,?_⟩
  .unfold dP;rw[Bool.or_eq_true];left;simp[all_eq_true,kA]
  .rw[uP];exact List.Pairwise.map _ (λa b h e=>h (JM e)) (pairwise_map.mp k)
 refine ah rr (bx i j (ai ?_));show(wH (aq 2) _ _)=_;unfold wH;show((some (D.lst ((cA aa ae).map λx=>D.int x.2),false)).bind _)=_;simp only[vJ];rw[hm _ rr];simp only[vJ];rw[hk];simp only[vJ];rw[if_pos l];unfold iH;rw[hz];have key:((VJ aa ae).map λx=>(kA x,D.int x.2))=dq (λp:List At×D=>bZ p.1) ((cA aa ae).map λx=>(kA x,D.int x.2)):=by
  refine jD _ (λx hx y hy e=>?_) ((aF _ _).map _) ?_
  .obtain⟨a,ha,rfl⟩:=vO hx;obtain⟨b,hb,rfl⟩:=vO hy;rw[NC (M a ha).1 (M b hb).1 (JM e)]
  .exact pairwise_map.mpr (eG _ _)
 rw[<-key,uP];rfl
structure Cl where
 o:Str
 p:Str
 s:Int
 u:Option Int
 n:Nat
def uD:OI->D
 |none=>.non
 |some x=>.int x
noncomputable def aW (c:Cl):D:=.tup [.str c.o,.str c.p,.int c.s,uD c.u,.int c.n]
def Eo (u:OI):aR (uD u)=true:=by cases u<;>rfl
theorem mV (c:Cl):aR (aW c)=true:=by simp[aW,Eo]
def iN (cs:List Cl):aX (cs.map aW)=true:=by grind[b8,mV]
noncomputable def gG (c:Cl)(day:Int):Bool:=decide (c.s<=day) && (match c.u with|none=>true|some x=>decide (day<x))
def at3 (d e f g:D)(r:LD):ly (d::e::f::g::r) 3=some g:=by have:=jb (xs:=d::e::f::g::r) (j:=3) X9;simpa using this
def at4 (d e f g h:D)(r:LD):ly (d::e::f::g::h::r) 4=some h:=by have:=jb (xs:=d::e::f::g::h::r) (j:=4) X9;simpa using this
def Ys (c:Cl):dI (aW c) (.int 0)=sS c.o:=by simp[aW,sv]
def Tv (c:Cl):dI (aW c) (.int 1)=sS c.p:=by simp[aW,sV]
def cl2 (c:Cl):dI (aW c) (.int 2)=sI c.s:=by simp[aW,Z6]
def cl3 (c:Cl):dI (aW c) (.int 3)=some (uD c.u,false):=by simp[aW,at3]
def cl4 (c:Cl):dI (aW c) (.int 4)=sI c.n:=by simp[aW,at4]
def bd (ds:LD)(h:ds.length<=100):dn ds=sT ds:=if_pos (cM N9)
def cO (ds:LD)(h:ds.length<=100):fD ds=lT ds:=if_pos (cM N9)
def xa (s day:Int)(u:OI):kL [.int day,.tup [.int s,uD u]]=sO (decide (s<=day) && (match u with|none=>true|some x=>decide (day<x))):=by
 refine ah rr (ai (bP (b1:=false) (by simp[sv]) λ_=>?_));cases u with
 |none=>rfl
 |some x=>rfl
def ro (c:Cl)(day:Int):dB [aW c,.int day]=sO (gG c day):=
 ah rr (ai (a0 _ (aM rr (aM (a0 _ (a7 (aJ _ _ rr rr (cl2 c)) (a7 (aJ _ _ rr rr (cl3 c)) rr)) (bd _ X9)) rr)) (xa _ _ _)))
def kS (c:Cl):List At:=[.i c.s,.i c.n]
def o5:Cl->List Cl->Cl
 |b,[]=>b
 |b,x::r=>if aU (kS x) (kS b)=some true then o5 x r else o5 b r
def xc:Cl->List Cl->Cl
 |b,[]=>b
 |b,x::r=>if aU (kS b) (kS x)=some true then xc x r else xc b r
theorem rq:∀(r:List Cl)(b:Cl),oN (kS b,aW b) (r.map λx=>(kS x,aW x))=aW (o5 b r)
 |[],b=>rr
 |x::r,b=>by
  rw[uY,oN,o5];split
  .exact rq r x
  .exact rq r b
theorem rz:∀(r:List Cl)(b:Cl),oM (kS b,aW b) (r.map λx=>(kS x,aW x))=aW (xc b r)
 |[],b=>rr
 |x::r,b=>by
  rw[uY,oM,xc];split
  .exact rz r x
  .exact rz r b
def Ep (cs:List Cl):da (cs.map kS)=true:=by
 simp_all[da,kS,NA]
def r6 (ρ:DL.Env)(cs:List Cl):jF (FM gu ρ) (cs.map aW)=some (cs.map λc=>.tup [.int c.s,.int c.n]):=gF cs λc _=>by
 rfl
def pe (cs:List Cl):dQ (cs.map λc=>D.tup [.int c.s,.int c.n])=some (cs.map kS):=fP cs λc _=>rr
def JN (e:f ρ=some (.lst ((b::r).map aW),bb)):CD f (FM gu) ρ=some (aW (o5 b r),false):=by
 unfold CD RA;rw[e,vJ];dsimp;rw[r6,vJ,pe,vJ,if_pos (Ep _)];have:((b::r).map kS).zip ((b::r).map aW)=(kS b,aW b)::r.map λx=>(kS x,aW x):=by rw[zip_map'];rfl
 rw[this];show some _=_;rw[rq]
def Sc (e:f ρ=some (.lst ((b::r).map aW),bb)):CC f (FM gu) ρ=some (aW (xc b r),false):=by
 unfold CC RA;rw[e,vJ];dsimp;rw[r6,vJ,pe,vJ,if_pos (Ep _)];have:((b::r).map kS).zip ((b::r).map aW)=(kS b,aW b)::r.map λx=>(kS x,aW x):=by rw[zip_map'];rfl
 rw[this];show some _=_;rw[rz]
def gH (rl:Str)(b:Cl)(r:List Cl):Cl:=if rl = "last" then xc b r else o5 b r
def JP (rl:Str)(b:Cl)(r:List Cl):lL [.lst ((b::r).map aW),.str rl]=sS (gH rl b r).p:=by
 unfold gH;by_cases h:rl = "last"
 .rw[if_pos h];exact ah rr (aP (bH rr (mf h)) (ai (aJ _ _ (Sc rr) rr (Tv _))))
 .rw[if_neg h];exact ah rr (am (bH rr (oC h)) (ai (aJ _ _ (JN rr) rr (Tv _))))
theorem mW:∀(r:List Cl)(b:Cl),o5 b r∈b::r
 |[],b=>by simp[o5]
 |x::r,b=>by
  rw[o5];split
  .exact mZ _ (mW r x)
  .rcases vP (mW r b)with h|h
   .rw[h];exact mX
   simp_all
theorem rA:∀(r:List Cl)(b:Cl),xc b r∈b::r
 |[],b=>by simp[xc]
 |x::r,b=>by
  rw[xc];split
  .exact mZ _ (rA r x)
  .rcases vP (rA r b)with h|h
   .rw[h];exact mX
   simp_all
def uw (rl:Str)(b:Cl)(r:List Cl):gH rl b r∈b::r:=by
 grind[gH,rA,mW]
noncomputable def Tw (cs:List Cl)(o:Str)(day:Int):List Cl:=cs.filter λc=>decide (c.o=o) && gG c day
def o6 (cs:List Cl):LS:=mD (dG (cs.map (·.p)))
def ND:List Cl->Nat
 |[]=>0
 |b::r=>(o5 b r).n
def pf (rl:Str):List Cl->D
 |[]=>.tup [.str "none"]
 |b::r=>if 1<(o6 (b::r)).length/\rl = "open" then .tup [.str "parted",.lst ((o6 (b::r)).map .str)]
  else .tup [.str "one",.str (gH rl b r).p,.int (ND ((b::r).filter λc=>decide (c.p=(gH rl b r).p)))]
def dX (cs:List Cl)(o rl:Str)(day:Int):D:=pf rl (Tw cs o day)
theorem NE {z:Str}:dG (z::zs)≠[]:=by
 have:∀(ss:List _)(M:List _),z∈M->z∈ss.foldl ie M:=λss=>by
  induction ss with
  |nil=>intro M h;exact h
  |cons a l O=>intro M h;exact O _ (yz.mpr (.inl h))
 grind[ie,dG]
def ph:av [row h ("root" : Str) [.str o,.int m,.int f,.str rl],.str "office"]=sS o:=ba (i:=0) bY rr
def Gi:av [row h ("root" : Str) [.str o,.int m,.int f,.str rl],.str "rule"]=sS rl:=ba (i:=3) bY rr
def ng (zs:LS):eC (zs.map .str)=some zs:=by
 simp
def jp (cs:List Cl)(hl:cs.length<=60)(day:Int):jP [.lst (cs.map aW),row h ("root" : Str) [.str o,.int m,.int f,.str rl],.int day]=some (dX cs o rl day,false):=by
 let rt:D:=row h ("root" : Str) [.str o,.int m,.int f,.str rl];have h1:=de (fi:=df (aq 0)) (nT:=1) (cap:=[2,1]) (tg:=fz 0) (c:=fQ (bJ (f2 ko (ft 0 0) (fA av (fV 2 (ak (fS "office") ay))))) (bJ (fA dB (fV 0 (fV 1 ay))))) (fe:=aq 0)
  (ρ:=[sL (cs.map aW),some (rt,false),sI day,none,none,none,none]) cs aW (λc=>decide (c.o=o) && gG c day) aW X9 N9 λc hc=>by
   refine⟨_,rr,bS (bB (aJ (.str c.o) (.str o) (aJ (aW c) (.int 0) (by simp[cj]) rr (Ys c)) (a0 [rt,.str "office"] (by simp[cj]) ph) X9)) λ_=>bB (a0 [aW c,.int day] (by simp[cj]) (ro c day)),λ_=>⟨false,by simp[cj]⟩⟩
 have g:j7 (df (aq 0)) 1 [2,1] (fz 0) _ (aq 0) _=lT ((Tw cs o day).map aW):=h1;have d:(Tw cs o day).length<=60:=vR (vM _ _) hl;unfold dX;generalize Tw cs o day=al at g d;have h2:∀ρ:DL.Env,ρ[3]? = some (lT (al.map aW))->f1 mE (j7 (df (aq 3)) 1 [] (fz 0) ya (ft 0 1)) ρ=lT ((o6 al).map .str):=λρ h3=>by
  have hc:=ge (fi:=df (aq 3)) (nT:=1) (cap:=[]) (tg:=fz 0) (fe:=ft 0 1) (ρ:=ρ) al aW (λc=>.str c.p) (by simp[h3]) N9 λc hc=>⟨_,rr,false,aJ (aW c) (.int 1) (by simp[cj]) rr (Tv c)⟩;have e2:al.map (λc=>D.str c.p)=(al.map (·.p)).map .str:=by rw[uP];rfl
  rw[e2]at hc;unfold f1;rw[hc,vJ];show(eC ((al.map (·.p)).map .str)).bind _=_;rw[ng,vJ,if_pos (by rw[vI];lia)];rfl
 have j:aX ((o6 al).map D.str)=true:=cN _;refine ah rr (bx (ds:=al.map aW) g (iN al) (bx (ds:=(o6 al).map .str) (h2 _ rr) j ?_));cases al with
 |nil=>rfl
 |cons b r=>
  have k:(o6 (b::r)).length≠0:=by
   unfold o6;rw[(cK _).length_eq];grind[NE]
  refine am (bB (by simp[k])) ?_;have M:∀ρ:DL.Env,ρ[1]? = some (some (rt,false))->fA av (fV 1 (ak (fS "rule") ay)) ρ=sS rl:=λρ l=>a0 [rt,.str "rule"] (by simp[l]) Gi;by_cases hp:1<(o6 (b::r)).length/\rl = "open"
  .have:pf rl (b::r)=.tup [.str "parted",.lst ((o6 (b::r)).map .str)]:=by rw[pf,if_pos hp]
   rw[this];exact aP (bS (p:=true) (q:=true) (bB I9) λ_=>bH (bb:=false) (M _ rr) (mf hp.2)) (ai (a0 [.str "parted",.lst ((o6 (b::r)).map .str)] X9 (bd _ X9)))
  .have:pf rl (b::r)=.tup [.str "one",.str (gH rl b r).p,.int (ND ((b::r).filter λc=>decide (c.p=(gH rl b r).p)))]:=by rw[pf,if_neg hp]
   rw[this];have O:fQ (bJ (f2 Tk (fA hV (fV 4 ay)) (fI 1))) (bJ (f2 ko (fA av (fV 1 (ak (fS "rule") ay))) (fS "open"))) [sL (cs.map aW),some (rt,false),sI day,lT ((b::r).map aW),lT ((o6 (b::r)).map .str),none,none]=some false:=by
    by_cases h5:1<(o6 (b::r)).length
    .exact bS (p:=true) (q:=false) (bB I9) λ_=>bH (bb:=false) (M _ rr) (oC λe=>hp ⟨h5,e⟩)
    .exact bS (p:=false) (q:=false) (bB I9) X9
   have s:=uw rl b r;let ch:=gH rl b r;have i:=de (fi:=df (aq 3)) (nT:=1) (cap:=[5]) (tg:=fz 0) (c:=bJ (f2 ko (ft 0 1) (aq 1))) (fe:=aq 0) (ρ:=[sL (cs.map aW),some (rt,false),sI day,lT ((b::r).map aW),lT ((o6 (b::r)).map .str),sS ch.p,none]) (b::r) aW (λc=>decide (c.p=ch.p)) aW X9 N9 λc hc=>⟨_,rr,bB (aJ (.str c.p) (.str ch.p) (aJ (aW c) (.int 1) (by simp[cj]) rr (Tv c)) (by simp[cj]) X9),λ_=>⟨false,by simp[cj]⟩⟩;obtain⟨b2,a,hf⟩:∃b2 a,(b::r).filter (λc=>decide (c.p=ch.p))=b2::a:=by
    cases hq:(b::r).filter (λc=>decide (c.p=ch.p)) with
    |nil=>
     have:=List.filter_eq_nil_iff.mp hq _ s;simp[ch]at this
    |cons b2 a=>exact⟨b2,a,rr⟩
   rw[hf]at i |-;refine am O (fu (.str ch.p) (a0 [.lst ((b::r).map aW),.str rl] (aM X9 (a7 (M _ rr) rr)) (JP rl b r)) rr (fu (aW (o5 b2 a)) (JN (bb:=true) i) (mV _) (ai (a0 [.str "one",.str ch.p,.int (o5 b2 a).n] (aM rr (aM rr (a7 (aJ (aW (o5 b2 a)) (.int 4) rr rr (cl4 _)) rr))) (bd _ X9)))))
def Pl:D->D
 |.tup ds=>.tup (iD ds none (some 2))
 |d=>d
def gI (cs:List Cl)(o rl p:Str)(day:Int):Bool:=cZ (Pl (dX cs o rl day)) (.tup [.str "one",.str p])
def ux (rl:Str)(M:List Cl):∃ds,pf rl M=.tup ds/\ds.all (aY 5)=true:=by
 cases M with
 |nil=>exact⟨_,rr,X9⟩
 |cons b r=>
  rw[pf];split
  .simp
  .exact⟨_,rr,X9⟩
def JQ (h:ds.all (aY 5)=true):(iD ds lo hi).all (aY 5)=true:=by
 rw[all_eq_true]at h |-;exact λd hd=>h d (List.mem_of_mem_drop (mem_of_mem_take hd))
def uy (h:ds.all (aY 5)=true):aY 40 (.tup ds)=true:=gD 6 40 _ H9 (by simpa only[aY]using h)
def BA (cs:List Cl)(o rl:Str)(day:Int):aY 39 (dX cs o rl day)=true:=by
 obtain⟨ds,e,h⟩:=ux rl _;unfold dX;rw[e];exact gD 6 39 _ H9 (by simpa only[aY]using h)
def xf (cs:List Cl)(hl:cs.length<=60)(p:Str)(day:Int):cV [.lst (cs.map aW),row h ("root" : Str) [.str o,.int m,.int f,.str rl],.str p,.int day]=sO (gI cs o rl p day):=by
 have hb:=jp cs hl (h:=h) (o:=o) (rl:=rl) (m:=m) (f:=f) day;obtain⟨ds,e,hd⟩:=ux rl _;have M:dX cs o rl day=.tup ds:=e;refine ah rr (ai (aJ (Pl (dX cs o rl day)) (.tup [.str "one",.str p]) ?_ s9 ?_))
 .have hc:=aI (fa:=fV 0 (fV 1 (fV 3 ay))) (ρ:=[sF _,some (row h _ _,false),sS p,sF _]) rr hb;rw[M]at hc |-;unfold Lq;rw[show(List.map _ _++List.replicate 0 _:DL.Env)=[sF _,some _,sF _,sF _]from rr,hc];rfl
 .unfold gI ko;rw[if_pos];rw[M];exact⟨uy (JQ hd),uy X9⟩
noncomputable def ao (j:Nat):D->Str
 |.tup [_,.tup (_::aj)]=>match aj[j]? with
  |some (.str s)=>s
  |_=>("" : Str)
 |_=>("" : Str)
noncomputable def dE (j:Nat):D->Int
 |.tup [_,.tup (_::aj)]=>match aj[j]? with
  |some (.int s)=>s
  |_=>0
 |_=>0
def Cd.root_of (h:Cd ("root" : Str) r):∃o rl,∃m f:Int,r=[.str o,.int m,.int f,.str rl]:=by
 generalize hk:("root" : Str)=k at h;cases h with
 |root o rl m f=>exact⟨o,rl,m,f,rr⟩
 |named=>exact cG hk
 |chosen=>exact cG hk
 |heir=>exact cG hk
 |three _ hh=>rcases hh with rfl|rfl|rfl<;>exact cG hk
 |other _ hh=>rcases hh with rfl|rfl|rfl|rfl|rfl<;>exact cG hk
def uz {κ α:Type}[DecidableEq κ]{ks:List κ}{k:κ}{x y:α}:∀ {xs:List α},y∈cD ks xs k x->y=x\/y∈xs:=by
 intro xs h;unfold cD at h;split at h
 .rename_i M;clear M;induction ks generalizing xs with
  |nil=>simp at h
  |cons a ks O=>
   cases xs with
   |nil=>simp at h
   |cons b xs=>
    grind[List.zipWith_cons_cons]
 grind
theorem u0:∀(l:List (dh×D))(a:LK×LD)(y:D),y∈(l.foldl qC a).2->y∈a.2\/∃p∈l,p.2=y
 |[],a,y,h=>.inl h
 |p::l,a,y,h=>by
  rcases u0 l _ y h with h|⟨q,hq,e⟩
  .rcases uz (show y∈cD _ _ _ _ from h)with h|h
   .exact .inr ⟨p,mX,h.symm⟩
   .exact .inl h
  .exact .inr ⟨q,mZ _ hq,e⟩
theorem uA {α:Type}(f:α->Str)(g:α->D):∀(l:List α),fZ (l.map λx=>D.tup [.str (f x),g x])=some (l.map λx=>(.inr (f x),g x))
 |[]=>rr
 |x::l=>by
  show((jG _).bind _)=_;rw[uA f g l];rfl
theorem rB {κ:Type}[DecidableEq κ]:∀ {ks:List κ}{vs:LD}{k:κ}{v:D},br ks vs k=some v->v∈vs
 |k'::ks,d::ds,k,v,h=>by
  unfold br at h;split at h
  .cases h;exact mX
  .exact mZ _ (rB h)
 |[],_,_,_,h=>by simp[br]at h
 |_::_,[],_,_,h=>by simp[br]at h
noncomputable def nj (KL:List (D×Nat)):List (dh×D):=(KL.filter λx=>aG x.1).map λx=>(.inr (ao 0 x.1),x.1)
def uB (KL:List (D×Nat))(o:Str):Option D:=br (bE (nj KL)).1 (bE (nj KL)).2 (.inr o)
def rC (g:wZ r)(h:aG r=true):∃a o rl,∃m f:Int,r=row a ("root" : Str) [.str o,.int m,.int f,.str rl]:=by
 obtain⟨a,k,aj,rfl,d⟩:=g;have hk:=xG h;subst hk;obtain⟨o,rl,m,f,rfl⟩:=d.root_of;exact⟨a,o,rl,m,f,rr⟩
def c7 (g:eD aa)(hx:x∈ag aa ae):ly aa (x.2:Int)=some x.1/\wZ x.1:=⟨bi (aB hx),g.2 _ (vL (aB hx))⟩
def zx (g:eD aa)(h:uB (ag aa ae) o=some v):∃a M rl,∃m f:Int,v=row a ("root" : Str) [.str M,.int m,.int f,.str rl]:=by
 have hv:=rB h;rcases u0 _ _ v hv with h|⟨p,hp,e⟩
 .cases h
 .obtain⟨x,hx,rfl⟩:=vO hp;obtain⟨h1,h2⟩:=vN hx;rw[<-e];exact rC (c7 g h1).2 h2
def nn (g:eD aa)(ae:Int):gU [.tup aa,.int ae]=sF (.dk (bE (nj (ag aa ae))).1 (bE (nj (ag aa ae))).2):=by
 have hl:=bI aa ae;have O:=g.1;have h1:=ge (fi:=df _) (nT:=1) (cap:=[0]) (tg:=fz 0) (fe:=f2 dI (aq 1) (aq 0)) (ρ:=[sT aa,sF _,none]) (ag aa ae) _ Prod.fst
  (by
   show(fA dS (fV 0 (fV 1 ay)) _).bind _=_;rw[a0 _ rr (jW aa g.rp g.le ae)];rfl) N9 λx hx=>by
   have ha:=(c7 g hx).1;exact⟨_,rr,false,by simp[cj,ha]⟩
 have hn:aX ((ag aa ae).map Prod.fst)=true:=b8 λd hd=>by
  obtain⟨x,hx,rfl⟩:=vO hd;exact(c7 g hx).2.rp.flat
 have h2:=de (fi:=df (aq 2)) (nT:=1) (cap:=[]) (tg:=fz 0) (c:=bJ (f2 ko (fA bo (fV 0 ay)) (fS "root"))) (fe:=fA dn (ak (fA av (fV 0 (ak (fS "office") ay))) (fV 0 ay)))
  (ρ:=[sT aa,sI ae,lT ((ag aa ae).map Prod.fst)]) (ag aa ae) Prod.fst _ (λx=>.tup [.str (ao 0 x.1),x.1]) X9 N9 λx hx=>by
   have M:=(c7 g hx).2;refine⟨_,rr,bH (a0 [x.1] rr (ir M)) rr,λhp=>⟨false,?_⟩⟩;obtain⟨a,o,rl,m,f,e⟩:=rC M hp;rw[e];rfl
 refine ah rr (bx h1 hn (ai (a0 _ (a7 h2 rr) ?_)));show(fZ _).map _=_;rw[uA _ Prod.fst];rfl
def rE:D×Nat->List (D×Nat)->D×Nat
 |b,[]=>b
 |b,x::r=>if aU (kA x) (kA b)=some true then rE x r else rE b r
theorem xg:∀(r:List (D×Nat))(b:D×Nat),oN (kA b,.int b.2) (r.map λx=>(kA x,D.int x.2))=.int (rE b r).2
 |[],b=>rr
 |x::r,b=>by
  rw[uY,oN,rE];split
  .exact xg r x
  .exact xg r b
def gJ (KL:List (D×Nat))(p:Str)(day:Int)(i:Nat):Bool:=match KL.filter (λx=>told dW p day x.1) with
 |[]=>false
 |b::r=>decide ((rE b r).2=i)
def JR (g:eD aa)(ae:Int)(hx:x∈ag aa ae)(e:x.1=row a ("death" : Str) [.int d,.str p]):eM [.tup aa,.int ae,.int x.2]=sO (gJ (ag aa ae) p d x.2):=by
 have ha:=(c7 g hx).1;have m:=(c7 g hx).2;have l:=wU aa g.rp g.le ae dW jn p d;have O:av [x.1,.str "person"]=sS p:=by rw[e];exact ba (i:=1) bY rr
 have n:bp [x.1]=sI d:=by rw[e];rfl
 have M:x∈pw aa ae dW p d:=mem_filter.mpr ⟨hx,by simp_all[told,row,dW,ut]⟩;have f:gJ (ag aa ae) p d x.2=match pw aa ae dW p d with|[]=>false|b::r=>decide ((rE b r).2=x.2):=rr
 have key:∀y∈pw aa ae dW p d,∃h k dd,aa[y.2]? = some _/\y.1=row h k [.int dd,.str p]/\cf k=true:=λy hy=>by
  obtain⟨c,j⟩:=El hy;obtain⟨h,k,dd,e2,h3,_⟩:=rf jn (g.rp _ (vL c)) j;exact⟨h,k,dd,by rw[c,e2],e2,h3⟩
 rw[f];cases hs:pw aa ae dW p d with
 |nil=>rw[hs]at M;cases M
 |cons b r=>
  rw[hs]at l key;have hm:∀ρ:DL.Env,ρ[0]? = some (sT aa)->jF (yM [0] (fA gp (fV 1 (fV 0 ay))) ρ) ((b::r).map λy=>.int y.2)=some ((b::r).map λy=>.tup [.int (a8 y.1),.int y.2]):=λρ h0=>
   gF (b::r) λy hy=>by
    obtain⟨h,k,dd,c,e2,h3⟩:=key y hy;show(fA gp _ _).map _=_;rw[a0 [.tup aa,.int y.2] (by simp[cj,h0]) (En c h3),e2];rfl
  have hk:dQ ((b::r).map λy=>D.tup [.int (a8 y.1),.int y.2])=some ((b::r).map kA):=fP _ λy _=>rr;have hz:((b::r).map kA).zip ((b::r).map λy=>D.int y.2)=(kA b,D.int b.2)::r.map λy=>(kA y,D.int y.2):=by rw[zip_map'];rfl
  have o:aX ((b::r).map λy=>D.int y.2)=true:=b8 λd hd=>by obtain⟨y,_,rfl⟩:=vO hd;rfl
  refine ah rr (fu x.1 (by simp[ha]) m.rp.flat (bx (a0 [.tup aa,.int ae,.tup (dW.map .str),.str p,.int d] (aM rr (aM rr (aM (a0 [.str "death"] rr (bd _ X9)) (a7 (a0 [x.1,.str "person"] rr O) (a7 (a0 [x.1] rr n) rr))))) l) o (ai (aJ (.int (rE b r).2) (.int x.2) ?_ rr ?_))))
  .unfold CD RA;show((some _).bind _)=_;rw[vJ];dsimp only;rw[hm _ rr,vJ,hk,vJ,if_pos (wW _),hz];simp_all[xg]
  simp_all<;>lia
abbrev KL:=List (D×Nat)
noncomputable def rF (K:KL)(p:Str)(day:Int):Bool:=(K.filter λx=>told dW p day x.1).isEmpty
def VL (K:KL)(p:Str)(day:Int):Bool:=match Pk (K.filter λx=>told oV p day x.1) with
 |none=>true
 |some x=>decide (kindOf x.1 = "found")
def xh (K:KL)(r:D):Bool:=c9 (kindOf r) && (rF K (cH r) (a8 r) && VL K (cH r) (a8 r))
def JU (r:D):Str:=if kindOf r = "named" then ao 1 r else ao 2 r
noncomputable def sX:LS:=[("named" : Str),"chosen","heir"]
def bU (K:KL)(M:List Cl)(x:D×Nat):Bool:=
 if kindOf x.1 = "death" then gJ K (ao 1 x.1) (a8 x.1) x.2
 else if kindOf x.1∈sX then match uB K (JU x.1) with
  |none=>false
  |some v=>if kindOf x.1 = "named" then true else xh K x.1 && gI M (ao 0 v) (ao 3 v) (ao 1 x.1) (a8 x.1)
 else false
def NF (aa:LD)(ae:Int)(p:Str)(day:Int):rg aa ae p day=rF (ag aa ae) p day:=rfl
def NG (h:aT r<=ae):jo aa ae r=xh (ag aa ae) r:=by
 unfold jo xh;rw[mf h];rfl
def Gj (g:eD aa)(ae:Int)(M:List Cl)(q:M.length<=60)(hx:x∈ag aa ae)(m:aG x.1=false):mP [.tup aa,.int ae,.lst (M.map aW),.int x.2]=sO (bU (ag aa ae) M x):=by
 obtain⟨ha,c⟩:=c7 g hx;have hh:aT x.1<=ae:=xG (vN hx).2;have hf:aR x.1=true:=c.rp.flat;have hw:∀ρ:DL.Env,ρ[4]? = some (some (x.1,false))->fA bo (fV 4 ay) ρ=sS (kindOf x.1):=λρ h4=>a0 [x.1] (by simp[h4]) (ir c);have O:∀ρ:DL.Env,ρ[4]? = some (some (x.1,false))->bJ (f2 f7 (fA bo (fV 4 ay)) (fA dn (ak (fS "named") (ak (fS "chosen") (ak (fS "heir") ay))))) ρ=some (!decide (kindOf x.1∈sX)):=λρ h4=>
  bB (aJ (.str (kindOf x.1)) (.tup (sX.map .str)) (hw ρ h4) (by simp[sizeLine,sX]) (oZ _ _))
 by_cases hd:kindOf x.1 = "death"
 .obtain⟨a,k,aj,e,d⟩:=c;have hk:k = "death":=by rw[e]at hd;exact hd
  subst hk;obtain⟨dd,p,rfl⟩:=d.deed.three S9;have hc:bU (ag aa ae) M x=gJ (ag aa ae) p dd x.2:=by
   unfold bU;rw[if_pos hd,e];rfl
  rw[hc];exact ah rr (fu x.1 (by simp[ha]) hf (aP (bH (bb:=false) (hw _ rr) (mf hd)) (ai (a0 [.tup aa,.int ae,.int x.2] rr (JR g ae hx e)))))
 .by_cases h3:kindOf x.1∈sX
  .have n:av [x.1,.str "office"]=sS (JU x.1):=by
    obtain⟨a,k,aj,e,d⟩:=c;rw[e]at h3 hd m |-;replace h3:k∈sX:=h3;clear hd m;cases d with
    |root=>exact cG h3
    |named d o p=>exact ba (i:=1) bY rr
    |chosen d b o p s=>exact ba (i:=2) bY rr
    |heir d b o p=>exact ba (i:=2) bY rr
    |three _ hk=>rcases hk with rfl|rfl|rfl<;>exact cG h3
    |other _ hk=>rcases hk with rfl|rfl|rfl|rfl|rfl<;>exact cG h3
   have f:∀ρ:DL.Env,ρ[0]? = some (sT aa)->ρ[1]? = some (sI ae)->ρ[4]? = some (some (x.1,false))->f2 V0 (fA gU (fV 0 (fV 1 ay))) (fA av (fV 4 (ak (fS "office") ay))) ρ=some ((uB (ag aa ae) (JU x.1)).getD .non,false):=λρ r t u=>
    aJ (.dk (bE (nj (ag aa ae))).1 (bE (nj (ag aa ae))).2) (.str (JU x.1)) (a0 [.tup aa,.int ae] (by simp[r,t]) (nn g ae)) (a0 [x.1,.str "office"] (by simp[u]) n) rr
   cases hr:uB (ag aa ae) (JU x.1) with
   |none=>
    rw[hr]at f;have hc:bU (ag aa ae) M x=false:=by unfold bU;rw[if_neg hd,if_pos h3,hr]
    rw[hc];exact ah rr (fu x.1 (by simp[ha]) hf (am (bH (bb:=false) (hw _ rr) (oC hd)) (am (by rw[O _ rr,mf h3];rfl) (fu .non (f _ rr rr rr) rr (aP (bB (aJ .non .non rr rr X9)) (ai rr))))))
   |some v=>
    rw[hr]at f;obtain⟨z,A,w,B,C,ev⟩:=zx g hr;have h:aR v=true:=by rw[ev];rfl
    have j:Tn v .non=sO false:=by rw[ev];simp[row]
    by_cases hn:kindOf x.1 = "named"
    .have hc:bU (ag aa ae) M x=true:=by unfold bU;rw[if_neg hd,if_pos h3,hr];dsimp only;rw[if_pos hn]
     rw[hc];exact ah rr (fu x.1 (by simp[ha]) hf (am (bH (bb:=false) (hw _ rr) (oC hd)) (am (by rw[O _ rr,mf h3];rfl) (fu v (f _ rr rr rr) h (am (bB (aJ v .non rr rr j)) (aP (bH (bb:=false) (hw _ rr) (mf hn)) (ai rr)))))))
    .have hc:bU (ag aa ae) M x=(xh (ag aa ae) x.1 && gI M (ao 0 v) (ao 3 v) (ao 1 x.1) (a8 x.1)):=by unfold bU;rw[if_neg hd,if_pos h3,hr];dsimp only;rw[if_neg hn]
     have l:av [x.1,.str "by"]=sS (ao 1 x.1)/\bp [x.1]=sI (a8 x.1):=by
      refine⟨?_,by rw[rj c];unfold sW;rw[m];rfl⟩;obtain⟨a,k,aj,e,d⟩:=c;rw[e]at h3 hn |-;replace h3:k∈sX:=h3;cases d with
      |root=>exact cG h3
      |named=>exact absurd rr hn
      |chosen d b o p s=>exact ba (i:=1) bY rr
      |heir d b o p=>exact ba (i:=1) bY rr
      |three _ hk=>rcases hk with rfl|rfl|rfl<;>exact cG h3
      |other _ hk=>rcases hk with rfl|rfl|rfl|rfl|rfl<;>exact cG h3
     have hs:=rh aa g.rp g.le ae (aB hx);rw[NG hh]at hs;have y:cV [.lst (M.map aW),v,.str (ao 1 x.1),.int (a8 x.1)]=sO (gI M (ao 0 v) (ao 3 v) (ao 1 x.1) (a8 x.1)):=by
      rw[ev];exact xf M q _ _
     rw[hc];refine ah rr (fu x.1 (by simp[ha]) hf (am (bH (bb:=false) (hw _ rr) (oC hd)) (am (by rw[O _ rr,mf h3];rfl) (fu v (f _ rr rr rr) h (am (bB (aJ v .non rr rr j)) (am (bH (bb:=false) (hw _ rr) (oC hn)) (ai ?_)))))));exact bP (b1:=false) (a0 [.tup aa,.int ae,.int x.2] rr hs) λ_=>a0 [.lst (M.map aW),v,.str (ao 1 x.1),.int (a8 x.1)] (aM rr (aM rr (a7 (a0 [x.1,.str "by"] rr l.1) (a7 (a0 [x.1] rr l.2) rr)))) y
  .have hc:bU (ag aa ae) M x=false:=by unfold bU;rw[if_neg hd,if_neg h3]
   rw[hc];exact ah rr (fu x.1 (by simp[ha]) hf (am (bH (bb:=false) (hw _ rr) (oC hd)) (aP (by rw[O _ rr,oC h3];rfl) (ai rr))))
def dY (M:LS)(p:Str)(day:Int)(c:Cl):List Cl:=
 if(!decide (c.o∈M) || (!decide (c.p=p) || !(gG c day || decide (day<c.s))))=true then [c]else if c.s<day then [⟨c.o,p,c.s,some day,c.n⟩]else []
noncomputable def bQ (O:List Cl)(M:LS)(p:Str)(day:Int):List Cl:=O.flatMap (dY M p day)
theorem eP (M:LS)(p:Str)(day:Int):∀O:List Cl,(bQ O M p day).length<=O.length
 |[]=>vT _
 |c::O=>by
  unfold bQ;rw[flatMap_cons,uZ,vE];have h1:=eP M p day O;have h2:(dY M p day c).length<=1:=by
   unfold dY;split
   .simp
   .split<;>simp
  unfold bQ at h1;lia
def BB (k:Str)(ws:LS):f7 (.str k) (.lst (ws.map .str))=sO (!decide (k∈ws)):=by
 simp only[f7,fj,vJ,mU];rw[if_pos ⟨rr,kO ws⟩]
def zy (a:List Cl)(t:a.length<=60)(M:LS)(p:Str)(day:Int):wR [.lst (a.map aW),.lst (M.map .str),.str p,.int day]=lT ((bQ a M p day).map aW):=by
 obtain⟨ρ',e,i,rfl⟩:=cL (tg:=fz 5) (g:=ze) (λj ρ=>∃i:OB,ρ=[sL (a.map aW),sL (M.map .str),sS p,sI day,lT ((bQ (a.take j) M p day).map aW),i]) (a.map aW)
  [sL (a.map aW),sL (M.map .str),sS p,sI day,lT [],none] ⟨none,rr⟩ (by
   rintro j d ρ hd ⟨i,rfl⟩;rw[vA]at hd;obtain⟨c,hc,rfl⟩:=oY hd;have k:bQ (a.take (j+1)) M p day=bQ (a.take j) M p day++dY M p day c:=by
    simp_all[bQ,take_add_one]
   have u:(bQ (a.take j) M p day).length<=60:=vR (eP M p day _) (by rw[length_take];lia);let f:DL.Env:=[sL (a.map aW),sL (M.map .str),sS p,sI day,lT ((bQ (a.take j) M p day).map aW),some (aW c,false)];have l:ft 5 0 f=sS c.o:=aJ (aW c) (.int 0) rr rr (Ys c);have m:ft 5 1 f=sS c.p:=aJ (aW c) (.int 1) rr rr (Tv c);have q2:ft 5 2 f=sI c.s:=aJ (aW c) (.int 2) rr rr (cl2 c);have q:ft 5 4 f=sI c.n:=aJ (aW c) (.int 4) rr rr (cl4 c);have O:jw (bJ (f2 f7 (ft 5 0) (aq 1))) (jw (bJ (f2 GP (ft 5 1) (aq 2))) (lh (jw (bJ (fA dB (fV 5 (fV 3 ay)))) (bJ (f2 Tk (ft 5 2) (aq 3)))))) f=some (!decide (c.o∈M) || (!decide (c.p=p) || !(gG c day || decide (day<c.s)))):=
    bc (bB (aJ (.str c.o) (.lst (M.map .str)) l rr (BB _ _))) λ_=>bc (bB (aJ (.str c.p) (.str p) m rr X9)) λ_=>aK (bc (bB (a0 [aW c,.int day] rr (ro c day))) λ_=>bB (aJ (.int c.s) (.int day) q2 rr X9))
   by_cases h1:(!decide (c.o∈M) || (!decide (c.p=p) || !(gG c day || decide (day<c.s))))=true
   .have h:dY M p day c=[c]:=by unfold dY;rw[if_pos h1]
    rw[h1]at O;refine⟨_,_,rr,.inl (mM O (jc (ds:=(bQ (a.take j) M p day).map aW) (d:=aW c) (b:=false) rr rr (mV c) (b7 I9))),some (aW c,false),?_⟩;rw[k,h,uW];rfl
   .rw[Bool.not_eq_true]at h1;rw[h1]at O;by_cases h2:c.s<day
    .have h:dY M p day c=[⟨c.o,p,c.s,some day,c.n⟩]:=by unfold dY;rw[if_neg (by rw[h1];decide),if_pos h2]
     refine⟨_,_,rr,.inl (gM O (mM (bB (aJ (.int c.s) (.int day) q2 rr (by simp[h2]))) (jc (ds:=(bQ (a.take j) M p day).map aW) (d:=aW ⟨c.o,p,c.s,some day,c.n⟩) (b:=false) rr (a0 [.str c.o,.str p,.int c.s,.int day,.int c.n] (a7 l (aM rr (a7 q2 (aM rr (a7 q rr))))) (bd _ X9)) (mV _) (b7 I9)))),some (aW c,false),?_⟩;rw[k,h,uW];rfl
    .have h:dY M p day c=[]:=by unfold dY;rw[if_neg (by rw[h1];decide),if_neg h2]
     refine⟨_,_,rr,.inl (gM O (gM (bB (aJ (.int c.s) (.int day) q2 rr I9)) rr)),some (aW c,false),?_⟩;rw[k,h,uQ];rfl)
 have r:fH (fz 5) ze (a.map aW) [sL (a.map aW),sL (M.map .str),sS p,sI day,lT [],none]=some (.nx [sL (a.map aW),sL (M.map .str),sS p,sI day,lT ((bQ a M p day).map aW),i]):=by
  simp_all
 exact ah rr (bx (ds:=[]) s9 rr (cm (jd (ds:=a.map aW) (by simp[kZ]) r) (kI rr)))
def VM (ho:av [r,.str "office"]=sS o)(hp:av [r,.str "person"]=sS p)(s:Int)(n:Nat):gV [r,.int s,.int n]=some (aW ⟨o,p,s,none,n⟩,false):=
 ah rr (ai (a0 _ (a7 (a0 _ rr ho) (a7 (a0 _ rr hp) rr)) (bd _ X9)))
def Gk (M:List Cl)(O:M.length<=60)(n:Nat):gy [.lst (M.map aW),row a ("chosen" : Str) [.int d,.str b,.str o,.str p,.int s],.int n]=lT ((bQ M [o] b s++[(⟨o,p,s,none,n⟩:Cl)]).map aW):=by
 let r:D:=row a ("chosen" : Str) [.int d,.str b,.str o,.str p,.int s];have ho:av [r,.str "office"]=sS o:=ba (i:=2) bY rr;have hb:av [r,.str "by"]=sS b:=ba (i:=1) bY rr;have hs:av [r,.str "since"]=sI s:=ba (i:=4) bY rr;have hl:=eP [o] b s M;refine ah rr (fu (.int s) (a0 _ rr hs) rr (bx (a0 _ (aM rr (a7 (a0 [.str o] (a7 (a0 _ rr ho) rr) (cO _ X9)) (a7 (a0 _ rr hb) rr))) (zy M O [o] b s)) (iN _) (ai ?_)));rw[uW];exact if_pos (cM (by rw[vI,length_singleton];lia))
noncomputable def z4 (hk:List LK)(hv:LD)(o p:Str):Option Str:=match br hk hv [.inr o,.inr p] with
 |some (.str h)=>some h
 |_=>none
def cB (K:KL)(hk:List LK)(hv:LD)(p:Str)(day:Int)(n:Nat)(o:Str):List Cl:=match z4 hk hv o p with
 |some h=>if rF K h day=true then [⟨o,h,day,none,n⟩]else []
 |none=>[]
def c6 (M:List Cl)(p:Str)(day:Int):LS:=mD (dG ((M.filter λc=>decide (c.p=p) && gG c day).map (·.o)))
def xi (K:KL)(M:List Cl)(hk:List LK)(hv:LD)(p:Str)(day:Int)(n:Nat):List Cl:=(c6 M p day).flatMap (cB K hk hv p day n)
def lU (K:KL)(hk:List LK)(hv:LD)(p:Str)(day:Int)(n:Nat)(o:Str):(cB K hk hv p day n o).length<=1:=by
 unfold cB;split
 .split<;>simp
 .simp
theorem rG {α M:Type}(f:α->List M)(h:∀a,(f a).length<=1):∀l:List α,(l.flatMap f).length<=l.length
 |[]=>vT _
 |a::l=>by
  rw[flatMap_cons,uZ,vE];have:=h a;have:=rG f h l;lia
def z6 (M:List Cl)(p:Str)(day:Int):(c6 M p day).length<=M.length:=by
 unfold c6;rw[(cK _).length_eq];refine vR (mB _) ?_;rw[vI];exact vM _ _
def xj (g:eD aa)(ae:Int)(M:List Cl)(L:M.length<=60)(hk:List LK)(hv:LD)(n:∀v∈hv,∃s,v=.str s)(hx:x∈ag aa ae)(e:x.1=row a ("death" : Str) [.int d,.str p]):
  jQ [.tup aa,.int ae,.lst (M.map aW),.dt hk hv,.int x.2]=lT ((xi (ag aa ae) M hk hv p d x.2).map aW):=by
 have ha:=(c7 g hx).1;have B:av [x.1,.str "person"]=sS p:=by rw[e];exact ba (i:=1) bY rr
 have C:bp [x.1]=sI d:=by rw[e];rfl
 have E:=z6 M p d;have F:∀(o:Str)(l:List Cl)(O:OB),l.length<=60->jh _=some (.nx [sT aa,sI ae,sL (M.map aW),sF (.dt hk hv),sI x.2,sS p,sI d,lT ((l++cB (ag aa ae) hk hv p d x.2 o).map aW),sS o,some ((br hk hv [.inr o,.inr p]).getD .non,false)]):=λo l O hl=>by
  have f:Jd (aq 3) (fV 8 (fV 5 ay)) [sT aa,sI ae,sL (M.map aW),sF (.dt hk hv),sI x.2,sS p,sI d,lT (l.map aW),sS o,O]=some ((br hk hv [.inr o,.inr p]).getD .non,false):=by
   simp[ja,sizeLine]
  cases m:br hk hv [.inr o,.inr p] with
  |none=>
   rw[m]at f;have ei:cB (ag aa ae) hk hv p d x.2 o=[]:=by unfold cB z4;rw[m]
   rw[ei,uQ];exact fu .non f rr (gM (bS (p:=false) (q:=false) (bB X9) X9) rr)
  |some v=>
   obtain⟨h,rfl⟩:=n v (rB m);rw[m]at f;have w:=zw aa g.rp g.le ae h d;rw[NF]at w;have y:∀ρ:DL.Env,ρ[0]? = some (sT aa)->ρ[1]? = some (sI ae)->ρ[6]? = some (sI d)->ρ[9]? = some (sS h)->fQ (bJ (f2 qe (aq 9) (fC .non))) (bJ (fA pB (fV 0 (fV 1 (fV 9 (fV 6 ay)))))) ρ=some (true && rF (ag aa ae) h d):=λρ G H r z=>
    bS (bB (by simp[z])) λ_=>bB (a0 [.tup aa,.int ae,.str h,.int d] (by simp[G,H,r,z]) w)
   cases A:rF (ag aa ae) h d with
   |false=>
    have ei:cB (ag aa ae) hk hv p d x.2 o=[]:=by simp_all[cB,z4]
    rw[ei,uQ];exact fu (.str h) f rr (gM (by rw[y _ rr rr rr rr,A];rfl) rr)
   |true=>
    have ei:cB (ag aa ae) hk hv p d x.2 o=[⟨o,h,d,none,x.2⟩]:=by simp_all[cB,z4]
    rw[ei,uW];exact fu (.str h) f rr (mM (by rw[y _ rr rr rr rr,A];rfl) (jc (ds:=l.map aW) (d:=aW ⟨o,h,d,none,x.2⟩) (b:=false) rr (a0 [.str o,.str h,.int d,.non,.int x.2] rr (bd _ X9)) rr (b7 I9)))
 obtain⟨ρ',I,k,O,rfl⟩:=cL (tg:=fz 8) (g:=jh) (λj ρ=>∃k O:OB,ρ=[sT aa,sI ae,sL (M.map aW),sF (.dt hk hv),sI x.2,sS p,sI d,lT ((((c6 M p d).take j).flatMap (cB (ag aa ae) hk hv p d x.2)).map aW),k,O]) ((c6 M p d).map .str)
  [sT aa,sI ae,sL (M.map aW),sF (.dt hk hv),sI x.2,sS p,sI d,lT [],none,none] ⟨none,none,rr⟩ (by
   rintro j dd ρ hd ⟨k,O,rfl⟩;rw[vA]at hd;obtain⟨o,ho,rfl⟩:=oY hd;have hl:(((c6 M p d).take j).flatMap (cB (ag aa ae) hk hv p d x.2)).length<=60:=vR (rG _ (lU _ _ _ _ _ _) _) (by rw[length_take];lia);refine⟨_,_,rr,.inl (F o _ O hl),sS o,some ((br hk hv [.inr o,.inr p]).getD .non,false),?_⟩;rw[take_add_one,ho,Option.toList_some,List.flatMap_append,flatMap_cons,List.flatMap_nil,uQ])
 have J:fH (fz 8) jh ((c6 M p d).map .str) [sT aa,sI ae,sL (M.map aW),sF (.dt hk hv),sI x.2,sS p,sI d,lT [],none,none]=some (.nx [sT aa,sI ae,sL (M.map aW),sF (.dt hk hv),sI x.2,sS p,sI d,lT ((xi (ag aa ae) M hk hv p d x.2).map aW),k,O]):=by
  rw[I];have:(c6 M p d).take ((c6 M p d).map D.str).length=c6 M p d:=X9
  rw[this];rfl
 have t:∀ρ:DL.Env,ρ[2]? = some (sL (M.map aW))->ρ[5]? = some (sS p)->ρ[6]? = some (sI d)->df (f1 mE (j7 (df (aq 2)) 1 [5,6] (fz 0) (fQ (bJ (f2 ko (ft 0 1) (aq 1))) (bJ (fA dB (fV 0 (fV 2 ay))))) (ft 0 0))) ρ=some ((c6 M p d).map .str):=λρ q2 K r=>by
  have hc:=de (fi:=df (aq 2)) (nT:=1) (cap:=[5,6]) (tg:=fz 0) (c:=fQ (bJ (f2 ko (ft 0 1) (aq 1))) (bJ (fA dB (fV 0 (fV 2 ay))))) (fe:=ft 0 0) (ρ:=ρ) M aW (λc=>decide (c.p=p) && gG c d) (λc=>.str c.o) (by simp[q2]) N9 λc hc=>
   ⟨_,rr,bS (bB (aJ (.str c.p) (.str p) (aJ (aW c) (.int 1) (by simp[cj]) rr (Tv c)) (by simp[cj,K]) X9)) λ_=>bB (a0 [aW c,.int d] (by simp[cj,r]) (ro c d)),λ_=>⟨false,aJ (aW c) (.int 0) (by simp[cj]) rr (Ys c)⟩⟩
  have e2:(M.filter λc=>decide (c.p=p) && gG c d).map (λc=>D.str c.o)=((M.filter λc=>decide (c.p=p) && gG c d).map (·.o)).map .str:=by rw[uP];rfl
  rw[e2]at hc;show(f1 mE _ ρ).bind _=_;unfold f1;rw[hc,vJ];have u:((M.filter λc=>decide (c.p=p) && gG c d).map (·.o)).length<64:=by rw[vI];exact lt_of_le_of_lt (vM _ _) N9
  show((eC _).bind _).bind _=_;rw[ng,vJ,if_pos u];rfl
 refine ah rr (fu (.str p) (a0 [x.1,.str "person"] (by simp[ha]) B) rr (fu (.int d) (a0 [x.1] (by simp[ha]) C) rr (bx (ds:=[]) s9 rr (cm (ρ':=[sT aa,sI ae,sL (M.map aW),sF (.dt hk hv),sI x.2,sS p,sI d,lT ((xi (ag aa ae) M hk hv p d x.2).map aW),k,O]) ?_ (kI rr)))));exact jd (t _ rr rr rr) J
def JV (g:eD aa)(ae:Int)(M:List Cl)(O:M.length<=60)(hk:List LK)(hv:LD)(b:∀v∈hv,∃s,v=.str s)(hx:x∈ag aa ae)(e:x.1=row a ("death" : Str) [.int d,.str p]):
  ij [.tup aa,.int ae,.lst (M.map aW),.dt hk hv,.int x.2]=lT ((bQ M (M.map Cl.o) p d++xi (ag aa ae) M hk hv p d x.2).map aW):=by
 have ha:=(c7 g hx).1;have f:av [x.1,.str "person"]=sS p:=by rw[e];exact ba (i:=1) bY rr
 have h:bp [x.1]=sI d:=by rw[e];rfl
 have h1:=ge (fi:=df (aq 2)) (nT:=1) (cap:=[]) (tg:=fz 0) (fe:=ft 0 0) (ρ:=[sT aa,sI ae,sL (M.map aW),sF (.dt hk hv),sI x.2,none,none]) M aW _ X9 N9 λc hc=>⟨_,rr,false,aJ (aW c) (.int 0) (by simp[cj]) rr (Ys c)⟩;have e2:M.map (λc=>D.str c.o)=(M.map Cl.o).map .str:=by rw[uP];rfl
 rw[e2]at h1;have j:=eP (M.map Cl.o) p d M;have k:(xi (ag aa ae) M hk hv p d x.2).length<=60:=vR (rG _ (lU _ _ _ _ _ _) _) (vR (z6 M p d) O);refine ah rr (bx h1 (cN _) (bx (a0 _ (aM rr (aM rr (aM (a0 _ (by simp[ha]) f) (aM (a0 [x.1] (by simp[ha]) h) rr)))) (zy M O _ p d)) (iN _) (ai ?_)));refine f8 rr (a0 _ rr (xj g ae M O hk hv b hx e)) ?_;rw[uW];exact if_pos (cM (by grind))
abbrev Pm:=List Cl×List LK×LD
def cF (K:KL)(st:Pm)(x:D×Nat):Pm:=
 if bU K st.1 x=true then
  if kindOf x.1 = "named" then (st.1++[⟨ao 1 x.1,ao 2 x.1,a8 x.1,none,x.2⟩],st.2)
  else if kindOf x.1 = "chosen" then (bQ st.1 [ao 2 x.1] (ao 1 x.1) (dE 4 x.1)++[⟨ao 2 x.1,ao 3 x.1,dE 4 x.1,none,x.2⟩],st.2)
  else if kindOf x.1 = "heir" then (st.1,dc st.2.1 [.inr (ao 2 x.1),.inr (ao 1 x.1)],cD st.2.1 st.2.2 [.inr (ao 2 x.1),.inr (ao 1 x.1)] (.str (ao 3 x.1)))
  else (bQ st.1 (st.1.map Cl.o) (ao 1 x.1) (a8 x.1)++xi K st.1 st.2.1 st.2.2 (ao 1 x.1) (a8 x.1) x.2,st.2)
 else st
def bV (K:KL):KL:=dq (λx=>bZ (kA x)) (K.filter λx=>!aG x.1)
noncomputable def np (K:KL)(l:KL):Pm:=l.foldl (cF K) ([],[],[])
noncomputable def kC (c:Cl):List At:=[.s c.o,.i c.s,.i c.n]
def aQ (K:KL):List Cl:=dq (λc=>bZ (kC c)) (np K (bV K)).1
noncomputable def NH:LK->Str
 |[_,.inr p]=>p
 |_=>("" : Str)
noncomputable def Sd (dd:LS)(ks:List LK):Nat:=(ks.filter λk=>decide (NH k∉dd)).length
structure A1 (K l:KL)(dd:List Str)(st:Pm):Prop where
 len:st.1.length+Sd dd st.2.1<=l.length
 ded:∀q∈dd,∃y∈l,gJ K q (a8 y.1) y.2=true
 nod:(st.1.map λc=>(c.o,c.n)).Nodup
 num:∀c∈st.1,c.n∈l.map (·.2)
 hs:∀v∈st.2.2,∃s,v=D.str s
 hk:st.2.1.length<=l.length
def Er (h:told ws p d r=true):a8 r<=d/\∀d',a8 r<=d'->told ws p d' r=true:=by
 unfold told at h;split at h
 .rw[vC]at h;obtain⟨h1,h2⟩:=h;unfold ut at h2;split at h2
  .rw[vC]at h2;refine⟨xG h2.2,λd' hd=>?_⟩;unfold told;rw[vC];refine⟨h1,?_⟩;unfold ut;rw[vC];exact⟨h2.1,mf hd⟩
  simp_all
 simp_all
theorem rH:∀(r:KL)(b:D×Nat),rE b r∈b::r/\∀y∈b::r,bF y (rE b r)=false
 |[],b=>by simp_all[rE,bF]
 |x::r,b=>by
  rw[rE,wV];by_cases h:bF x b=true
  .rw[if_pos (by rw[h])];obtain⟨h1,h2⟩:=rH r x;refine⟨mZ _ h1,λy hy=>?_⟩;rcases vP hy with rfl|hy
   .grind[mX,bF]
   .exact h2 y hy
  .rw[if_neg (by simpa using h)];obtain⟨h1,h2⟩:=rH r b;refine⟨?_,λy hy=>?_⟩
   .grind
   .grind[mX,bF]
def rJ (h:gJ K p d i=true):∃m∈K,told dW p d m.1=true/\m.2=i/\∀y∈K,told dW p d y.1=true->bF y m=false:=by
 unfold gJ at h;split at h
 .cases h
 .rename_i b r e;obtain⟨h1,h2⟩:=rH r b;grind
theorem BC (h1:gJ K p d1 i1=true)(h2:gJ K p d2 i2=true):i1=i2:=by
 refine cX λG g=>?_;obtain⟨m1,k1,M,e1,a⟩:=rJ h1;obtain⟨m2,k2,O,e2,q2⟩:=rJ h2;apply g;clear g;have b:=Er M;have c:=Er O;grind[bF]
theorem z8 {κ:Type}[DecidableEq κ]:∀ {ks:List κ}{vs:LD}{k:κ}{v:D},br ks vs k=some v->k∈ks
 |k'::ks,d::ds,k,v,h=>by
  unfold br at h;split at h
  .simp_all
  .exact mZ _ (z8 h)
 |[],_,_,_,h=>by simp[br]at h
 |_::_,[],_,_,h=>by simp[br]at h
theorem rK (p:Str)(dd:LS)(hp:p∉dd):∀ks:List LK,Sd dd ks=Sd (p::dd) ks+(ks.filter λk=>decide (NH k=p)).length
 |[]=>rr
 |k::ks=>by
  have M:=rK p dd hp ks;grind[Sd]
theorem kP (M:LS)(p:Str)(day:Int):∀O:List Cl,((bQ O M p day).map λc=>(c.o,c.n)).Sublist (O.map λc=>(c.o,c.n))
 |[]=>List.Sublist.slnil
 |c::O=>by
  have a:=kP M p day O;unfold bQ at a |-;rw[flatMap_cons,uW];have:((dY M p day c).map λc=>(c.o,c.n))=[(c.o,c.n)]\/((dY M p day c).map λc=>(c.o,c.n))=[]:=by
   unfold dY;split
   .exact .inl rr
   .split
    .exact .inl rr
    .exact .inr rr
  rcases this with h|h
  .rw[h];exact a.cons₂ _
  .rw[h];exact a.cons _
def kQ (h:c∈bQ O offs p day):∃M∈O,M.o=c.o/\M.n=c.n:=by
 have:=(kP _ p _ O).subset (uS ⟨c,h,rr⟩);simp_all
theorem iO:∀(ss M:LS),M.Nodup->(ss.foldl ie M).Nodup
 |[],_,h=>h
 |s::ss,M,h=>iO ss _ (qo h s)
def rL (M:List Cl)(p:Str)(day:Int):(c6 M p day).Nodup:=(cK _).nodup_iff.mpr (iO _ [] nodup_nil)
theorem z9 (K:KL)(hk:List LK)(hv:LD)(p:Str)(day:Int)(n:Nat):∀os:LS,((os.flatMap (cB K hk hv p day n)).map λc=>(c.o,c.n)).Sublist (os.map λo=>(o,n))
 |[]=>List.Sublist.slnil
 |o::os=>by
  have M:=z9 K hk hv p day n os;rw[flatMap_cons,uW];have:((cB K hk hv p day n o).map λc=>(c.o,c.n))=[(o,n)]\/((cB K hk hv p day n o).map λc=>(c.o,c.n))=[]:=by
   unfold cB;split
   .split
    .exact .inl rr
    .exact .inr rr
   .exact .inr rr
  rcases this with h|h
  .rw[h];exact M.cons₂ _
  .rw[h];exact M.cons _
theorem uC {α:Type}[DecidableEq α]:∀(l m:List α),l.Nodup->(∀x∈l,x∈m)->l.length<=m.length
 |[],_,_,_=>uN _
 |x::l,m,h,s=>by
  rw[nodup_cons]at h;have:=uC l _ h.2 λy hy=>(List.mem_erase_of_ne (b:=x) (λe=>h.1 (by rw[<-e];exact hy))).mpr (s y (mZ _ hy));grind
theorem uE {α M:Type}(f:α->List M)(q:α->Bool)(h:∀a,(f a).length<=1/\(q a=false->f a=[])):∀l:List α,(l.flatMap f).length<=(l.filter q).length
 |[]=>vT _
 |a::l=>by
  have O:=uE f q h l;grind
def NI (K:KL)(M:List Cl)(hk:List LK)(hv:LD)(p:Str)(day:Int)(n:Nat):(xi K M hk hv p day n).length<=(hk.filter λk=>decide (NH k=p)).length:=by
 refine vR (uE _ (λo=>(br hk hv [.inr o,.inr p]).isSome) (λo=>⟨lU _ _ _ _ _ _ _,λh=>?_⟩) _) ?_
 .simp_all[cB,z4]
 .have O:(((c6 M p day).filter λo=>(br hk hv [.inr o,.inr p]).isSome).map λo=>([.inr o,.inr p]:LK)).Nodup:=List.Pairwise.map _ (λa b c e=>c (by injection e with e _;injection e)) ((rL M p _).filter _);have:=uC _ (hk.filter λk=>decide (NH k=p)) O λk hm=>by
   obtain⟨o,ho,rfl⟩:=vO hm;obtain⟨v,hv⟩:=uU (vN ho).2;exact mem_filter.mpr ⟨z8 hv,mf rr⟩
  simp_all
def A1.step {K l:KL}{dd:LS}{st:Pm}(h:A1 K l dd st){x:D×Nat}(hx:x.2∉l.map (·.2)):∃j,A1 K (l++[x]) j (cF K st x):=by
 have i:∀ {n:Nat},n∈l.map (·.2)->n∈(l++[x]).map (·.2):=λh=>by grind
 have m:x.2∈(l++[x]).map (·.2):=X9
 have p:(l++[x]).length=l.length+1:=X9
 have O:∀q∈dd,∃y∈l++[x],gJ K q (a8 y.1) y.2=true:=λq hq=>by
  obtain⟨y,h1,h2⟩:=h.ded q hq;exact⟨y,mem_append_left _ h1,h2⟩
 have r:A1 K (l++[x]) dd st:=⟨by have:=h.len;lia,O,h.nod,λc hc=>i (h.num c hc),h.hs,by have:=h.hk;lia⟩;have A:=h.len;unfold cF;split
 .rename_i M;split
  .refine⟨dd,I9,O,?_,λc hc=>?_,h.hs,by rw[p];exact le_succ_of_le h.hk⟩
   .rw[uW,nodup_append];refine⟨h.nod,X9,λa ha b hb e=>?_⟩;obtain⟨c,hc,rfl⟩:=vO ha;simp at hb;subst hb;injection e with _ e2;exact hx (e2 ▸ h.num c hc)
   .rcases mem_append.mp hc with hc|hc
    .exact i (h.num c hc)
    .rw[uT hc];exact m
  .split
   .have hl:=eP [ao 2 x.1] (ao 1 x.1) (dE 4 x.1) st.1;refine⟨dd,I9,O,?_,λc hc=>?_,h.hs,by rw[p];exact le_succ_of_le h.hk⟩
    .rw[uW,nodup_append];refine⟨h.nod.sublist (kP _ _ _ _),X9,λa ha b hb e=>?_⟩;obtain⟨c,hc,rfl⟩:=vO ha;simp at hb;subst hb;injection e with _ e2;obtain⟨d,h1,_,h3⟩:=kQ hc;exact hx (e2 ▸ h3 ▸ h.num d h1)
    .rcases mem_append.mp hc with hc|hc
     .obtain⟨d,h1,_,h3⟩:=kQ hc;rw[<-h3];exact i (h.num d h1)
     .rw[uT hc];exact m
   .split
    .have hp:∀k:LK,Sd dd (dc st.2.1 k)<=Sd dd st.2.1+1/\(dc st.2.1 k).length<=st.2.1.length+1:=λk=>by
      grind[dc,Sd]
     refine⟨dd,?_,O,r.nod,r.num,λv hv=>?_,?_⟩
     .grind
     .rcases uz hv with hv|hv
      .exact⟨_,hv⟩
      .exact h.hs v hv
     .have:=(hp [.inr (ao 2 x.1),.inr (ao 1 x.1)]).2;have:=h.hk;lia
    .rename_i n1 n2 n3;have hd:kindOf x.1 = "death":=by
      simp_all[bU,sX]
     have hf:gJ K (ao 1 x.1) (a8 x.1) x.2=true:=by unfold bU at M;rwa [if_pos hd]at M
     have t:ao 1 x.1∉dd:=λhm=>by
      obtain⟨y,h1,h2⟩:=h.ded _ hm;grind[BC]
     have hl:=eP (st.1.map Cl.o) (ao 1 x.1) (a8 x.1) st.1;have u:=NI K st.1 st.2.1 st.2.2 (ao 1 x.1) (a8 x.1) x.2;have w:=rK (ao 1 x.1) dd t st.2.1;have f:=z9 K st.2.1 st.2.2 (ao 1 x.1) (a8 x.1) x.2 (c6 st.1 (ao 1 x.1) (a8 x.1));have g:∀c∈xi K st.1 st.2.1 st.2.2 (ao 1 x.1) (a8 x.1) x.2,c.o∈c6 st.1 (ao 1 x.1) (a8 x.1)/\c.n=x.2:=λc hc=>by
      have:=f.subset (uS ⟨c,hc,rr⟩);simp_all<;>lia
     refine⟨ao 1 x.1::dd,?_,λq hq=>?_,?_,λc hc=>?_,h.hs,by rw[p];exact le_succ_of_le h.hk⟩
     .grind
     .rcases vP hq with rfl|hq
      .exact⟨x,X9,hf⟩
      .exact O q hq
     .rw[uW,nodup_append];refine⟨h.nod.sublist (kP _ _ _ _),List.Nodup.sublist f (List.Pairwise.map _ (λa b s e=>s (by injection e)) (rL _ _ _)),λa ha b hb e=>?_⟩;obtain⟨c,hc,rfl⟩:=vO ha;obtain⟨c2,z,rfl⟩:=vO hb;injection e with _ e2;obtain⟨d,h1,_,h3⟩:=kQ hc;exact hx ((g c2 z).2 ▸ e2 ▸ h3 ▸ h.num d h1)
     .rcases mem_append.mp hc with hc|hc
      .obtain⟨d,h1,_,h3⟩:=kQ hc;rw[<-h3];exact i (h.num d h1)
      .rw[(g c hc).2];exact m
 .exact⟨dd,r⟩
def NJ (e:ρ[i]? = some (some (.dt ks vs,true)))(ev:O ρ=some (d,b))(ek:fk ρ=some kd)(hk:ja kd=some M)(hf:aR d=true)(h1:ks.length<=1000)(h2:kd.length<=1000):ud i fk O ρ=some (.nx (ρ.set i (some (.dt (dc ks M) (cD ks vs M d),true)))):=by
 unfold ud;rw[e];dsimp;rw[ev,vJ,ek,vJ,hk,vJ,if_pos ⟨hf,b7 N9,cM N9⟩]
def Z7 (a b:Cl):(aU (kC a) (kC b)).isSome=true:=by
 unfold kC;rw[aU];split
 .rw[aU];split
  .rw[aU];split
   .rfl
   .rfl
  .rfl
 .rfl
def Es (cs:List Cl):da (cs.map kC)=true:=by
 simp_all[da,Z7]
theorem uF {α M:Type}(f:α->M):∀ {l:List α},(l.map f).Nodup->∀ {a b:α},a∈l->b∈l->f a=f b->a=b
 |[],_,_,_,ha,_,_=>by cases ha
 |c::l,h,a,b,ha,hb,e=>by
  rw[uY,nodup_cons]at h;rcases vP ha with ea|ha1
  .grind
  .rcases vP hb with O|hb1
   .simp_all
   .exact uF f h.2 ha1 hb1 e
def Se {cs:List Cl}{a b:Cl}(ha:a∈cs)(hb:b∈cs)(e:bZ (kC a)=bZ (kC b)):(a.o,a.n)=(b.o,b.n):=by
 have h:=nZ (Es cs) (uS ⟨a,ha,rr⟩) (uS ⟨b,hb,rr⟩) e;grind[kC]
def NK (g:eD aa)(ae:Int)(h:A1 (ag aa ae) l dd st)(hj:l.length<=60)(hx:x∈ag aa ae)(q:aG x.1=false)(m:OB):
  ∃n,(oy [sT aa,sI ae,lT (st.1.map aW),some (.dt st.2.1 st.2.2,true),sI x.2,m]=some (.nx [sT aa,sI ae,lT ((cF (ag aa ae) st x).1.map aW),some (.dt (cF (ag aa ae) st x).2.1 (cF (ag aa ae) st x).2.2,true),sI x.2,n])
   \/ oy [sT aa,sI ae,lT (st.1.map aW),some (.dt st.2.1 st.2.2,true),sI x.2,m]=some (.ct [sT aa,sI ae,lT ((cF (ag aa ae) st x).1.map aW),some (.dt (cF (ag aa ae) st x).2.1 (cF (ag aa ae) st x).2.2,true),sI x.2,n])):=by
 obtain⟨ha,c⟩:=c7 g hx;have j:st.1.length<=60:=by have:=h.len;lia
 have hf:aR x.1=true:=c.rp.flat;have r:=Gj g ae st.1 j hx q;have O:lh (bJ (fA mP (fV 0 (fV 1 (fV 2 (fV 4 ay)))))) [sT aa,sI ae,lT (st.1.map aW),some (.dt st.2.1 st.2.2,true),sI x.2,some (x.1,false)]=some (!bU (ag aa ae) st.1 x):=
  aK (bB (a0 [.tup aa,.int ae,.lst (st.1.map aW),.int x.2] X9 r))
 have hw:fA bo (fV 5 ay) [sT aa,sI ae,lT (st.1.map aW),some (.dt st.2.1 st.2.2,true),sI x.2,some (x.1,false)]=sS (kindOf x.1):=a0 [x.1] rr (ir c);refine⟨some (x.1,false),?_⟩;cases hc:bU (ag aa ae) st.1 x with
 |false=>
  rw[hc]at O;have es:cF (ag aa ae) st x=st:=by unfold cF;rw[hc];rfl
  rw[es];exact .inr (fu x.1 (by simp[ha]) hf (Z5 (mM O rr)))
 |true=>
  rw[hc]at O;left;refine fu x.1 (by simp[ha]) hf (cm (gM O rr) ?_);by_cases hn:kindOf x.1 = "named"
  .have es:cF (ag aa ae) st x=(st.1++[⟨ao 1 x.1,ao 2 x.1,a8 x.1,none,x.2⟩],st.2):=by unfold cF;rw[hc,if_pos rr,if_pos hn]
   rw[es];refine mM (bH (bb:=false) hw (mf hn)) ?_;have f:av [x.1,.str "office"]=sS (ao 1 x.1)/\av [x.1,.str "person"]=sS (ao 2 x.1):=by
    obtain⟨a,k,aj,e,d⟩:=c;rw[e]at hn |-;replace hn:k = "named":=hn;cases d with
    |named d o p=>exact⟨ba (i:=1) bY rr,ba (i:=2) bY rr⟩
    |root=>exact cG hn
    |chosen=>exact cG hn
    |heir=>exact cG hn
    |three _ hk=>rcases hk with rfl|rfl|rfl<;>exact cG hn
    |other _ hk=>rcases hk with rfl|rfl|rfl|rfl|rfl<;>exact cG hn
   have t:bp [x.1]=sI (a8 x.1):=by simp_all[rj,sW]
   have e2:f2 iU (aq 2) (fA fD (ak (fA gV (fV 5 (ak (fA bp (fV 5 ay)) (fV 4 ay)))) ay)) [sT aa,sI ae,lT (st.1.map aW),some (.dt st.2.1 st.2.2,true),sI x.2,some (x.1,false)]=lT (st.1.map aW++[aW ⟨ao 1 x.1,ao 2 x.1,a8 x.1,none,x.2⟩]):=by
    refine f8 (x:=.lst (st.1.map aW)) (y:=.lst [aW ⟨ao 1 x.1,ao 2 x.1,a8 x.1,none,x.2⟩]) (b1:=false) (b2:=true) rr ?_ (if_pos (cM (by rw[vI,length_singleton];lia)));exact a0 [aW ⟨ao 1 x.1,ao 2 x.1,a8 x.1,none,x.2⟩] (a7 (a0 [x.1,.int (a8 x.1),.int x.2] (aM rr (aM (a0 [x.1] rr t) rr)) (VM f.1 f.2 _ _)) rr) (cO _ X9)
   have:=wQ (i:=2) e2 (by have hq:=iN (st.1++[(⟨ao 1 x.1,ao 2 x.1,a8 x.1,none,x.2⟩:Cl)]);rwa [uW]at hq);rw[uW];exact this
  .refine gM (bH (bb:=false) hw (oC hn)) ?_;by_cases M:kindOf x.1 = "chosen"
   .have es:cF (ag aa ae) st x=(bQ st.1 [ao 2 x.1] (ao 1 x.1) (dE 4 x.1)++[⟨ao 2 x.1,ao 3 x.1,dE 4 x.1,none,x.2⟩],st.2):=by simp_all[cF]
    rw[es];refine mM (bH (bb:=false) hw (mf M)) (wQ (i:=2) (a0 [.lst (st.1.map aW),x.1,.int x.2] rr ?_) (iN _));obtain⟨a,k,aj,e,d⟩:=c;rw[e]at M |-;replace M:k = "chosen":=M;cases d with
    |chosen d b o p s=>exact Gk st.1 j x.2
    |root=>exact cG M
    |named=>exact cG M
    |heir=>exact cG M
    |three _ hk=>rcases hk with rfl|rfl|rfl<;>exact cG M
    |other _ hk=>rcases hk with rfl|rfl|rfl|rfl|rfl<;>exact cG M
   .refine gM (bH (bb:=false) hw (oC M)) ?_;by_cases hh:kindOf x.1 = "heir"
    .have es:cF (ag aa ae) st x=(st.1,dc st.2.1 [.inr (ao 2 x.1),.inr (ao 1 x.1)],cD st.2.1 st.2.2 [.inr (ao 2 x.1),.inr (ao 1 x.1)] (.str (ao 3 x.1))):=by simp_all[cF]
     rw[es];have f:av [x.1,.str "office"]=sS (ao 2 x.1)/\av [x.1,.str "by"]=sS (ao 1 x.1)/\av [x.1,.str "person"]=sS (ao 3 x.1):=by
      obtain⟨a,k,aj,e,d⟩:=c;rw[e]at hh |-;replace hh:k = "heir":=hh;cases d with
      |heir d b o p=>exact⟨ba (i:=2) bY rr,ba (i:=1) bY rr,ba (i:=3) bY rr⟩
      |root=>exact cG hh
      |named=>exact cG hh
      |chosen=>exact cG hh
      |three _ hk=>rcases hk with rfl|rfl|rfl<;>exact cG hh
      |other _ hk=>rcases hk with rfl|rfl|rfl|rfl|rfl<;>exact cG hh
     exact mM (bH (bb:=false) hw (mf hh)) (NJ (ks:=st.2.1) (vs:=st.2.2) (kd:=[.str (ao 2 x.1),.str (ao 1 x.1)]) (b:=false) rr (a0 [x.1,.str "person"] rr f.2.2) (a7 (a0 [x.1,.str "office"] rr f.1) (a7 (a0 [x.1,.str "by"] rr f.2.1) rr)) rr rr (by have:=h.hk;lia) X9)
    .refine gM (bH (bb:=false) hw (oC hh)) ?_;have es:cF (ag aa ae) st x=(bQ st.1 (st.1.map Cl.o) (ao 1 x.1) (a8 x.1)++xi (ag aa ae) st.1 st.2.1 st.2.2 (ao 1 x.1) (a8 x.1) x.2,st.2):=by simp_all[cF]
     rw[es];have hd:kindOf x.1 = "death":=by
      unfold bU at hc;by_cases hd:kindOf x.1 = "death"
      .exact hd
      .rw[if_neg hd,if_neg (by simp[sX,hn,M,hh])]at hc;cases hc
     refine wQ (i:=2) (a0 [.tup aa,.int ae,.lst (st.1.map aW),.dt st.2.1 st.2.2,.int x.2] X9 ?_) (iN _);obtain⟨a,k,aj,e,d⟩:=c;have hk:k = "death":=by rw[e]at hd;exact hd
     subst hk;obtain⟨dd,p,rfl⟩:=d.deed.three S9;have:=JV g ae st.1 j st.2.1 st.2.2 h.hs hx e;rw[this,e];rfl
theorem Et (K:KL):∀(l M:KL)(st:Pm)(dd:LS),A1 K M dd st->((M++l).map (·.2)).Nodup->∃O,A1 K (M++l) O (l.foldl (cF K) st)
 |[],M,st,dd,h,_=>⟨dd,by rw[uQ];exact h⟩
 |x::l,M,st,dd,h,hn=>by
  have hx:x.2∉M.map (·.2):=λhm=>by
   grind
  obtain⟨O,h'⟩:=h.step hx;have e:M++x::l=(M++[x])++l:=X9
  rw[e]at hn |-;exact Et K l _ _ _ h' hn
def Eu (K l:KL)(h:(l.map (·.2)).Nodup):∃dd,A1 K l dd (np K l):=by
 have:=Et K l [] ([],[],[]) [] ⟨uN _,X9,X9,X9,X9,uN _⟩ h;exact this
def kR (h:(K.map (·.2)).Nodup):((bV K).map (·.2)).Nodup:=((aF _ _).map _).nodup_iff.mpr (List.Nodup.sublist (List.Sublist.map _ filter_sublist) h)
def uG {aa:LD}(g:eD aa)(ae:Int)(t:(bV (ag aa ae)).length<=60):qY [.tup aa,.int ae]=lT ((aQ (ag aa ae)).map aW)/\(aQ (ag aa ae)).length<=60:=by
 have q:dA [.tup aa,.int ae]=lT ((bV (ag aa ae)).map λx=>.int x.2):=pb g ae;generalize i:ag aa ae=K at t q |-;have u:∀x∈bV K,x∈K/\aG x.1=false:=λx hx=>by
  obtain⟨h1,h2⟩:=vN ((aF _ _).mem_iff.mp hx);simp_all
 have r:((bV K).map (·.2)).Nodup:=kR (by grind[cY]);obtain⟨ρ',e,l,k,rfl⟩:=cL (tg:=fz 4) (g:=oy) (λj ρ=>∃l k:OB,ρ=[sT aa,sI ae,lT ((np K ((bV K).take j)).1.map aW),some (.dt (np K ((bV K).take j)).2.1 (np K ((bV K).take j)).2.2,true),l,k]) ((bV K).map λx=>.int x.2)
  _ ⟨none,none,rr⟩ (by
   rintro j d ρ hd ⟨l,k,rfl⟩;rw[vA]at hd;obtain⟨x,hx,rfl⟩:=oY hd;have G:(bV K).take (j+1)=(bV K).take j++[x]:=by rw[take_add_one,hx];rfl
   have v:np K ((bV K).take (j+1))=cF K (np K ((bV K).take j)) x:=by simp_all[np]
   obtain⟨w,m⟩:=u x (vL hx);obtain⟨dd,h⟩:=Eu K ((bV K).take j) (List.Nodup.sublist (List.Sublist.map _ (take_sublist _ _)) r);rw[<-i]at h;have M:=NK g ae h (by rw[i,length_take];lia) (x:=x) (by rw[i];exact w) m k;rw[i]at M;obtain⟨z,M⟩:=M;exact⟨_,_,rr,M,sI x.2,z,by rw[v]⟩)
 have A:(bV K).take ((bV K).map λx=>D.int x.2).length=bV K:=X9
 rw[A]at e;obtain⟨dd,O⟩:=Eu K (bV K) r;generalize B:(np K (bV K))=st at e O;have C:st.1.length<=60:=by have:=O.len;lia
 have f:aQ K=dq (λc=>bZ (kC c)) st.1:=by unfold aQ;rw[B]
 have hm:∀ρ:DL.Env,jF (FM jO ρ) (st.1.map aW)=some (st.1.map λc=>.tup [.str c.o,.int c.s,.int c.n]):=λρ=>gF st.1 λc _=>by
  rfl
 have hk:dQ (st.1.map λc=>D.tup [.str c.o,.int c.s,.int c.n])=some (st.1.map kC):=fP st.1 λc _=>rr;have E:(st.1.map kC).length<64/\da (st.1.map kC)=true/\dP (st.1.map kC)=true/\((st.1.map kC).map bZ).Nodup:=by
  refine⟨by rw[vI];lia,Es _,?_,?_⟩
  .simp_all[dP,kC]
  .rw[uP];have h1:st.1.Pairwise λa b=>(a.o,a.n)≠(b.o,b.n):=pairwise_map.mp O.nod;have h2:st.1.Pairwise λa b=>bZ (kC a)≠bZ (kC b):=by
    refine List.Pairwise.imp_of_mem ?_ h1;intro a b ha hb F e;exact F (Se ha hb e)
   exact pairwise_map.mpr h2
 have hz:(st.1.map kC).zip (st.1.map aW)=st.1.map λc=>(kC c,aW c):=by rw[zip_map']
 have key:((aQ K).map λc=>(kC c,aW c))=dq (λp:List At×D=>bZ p.1) (st.1.map λc=>(kC c,aW c)):=by
  rw[f];refine jD _ (λx hx y hy e=>?_) ((aF _ _).map _) ?_
  .grind[uF]
  .exact pairwise_map.mpr (eG _ _)
 refine⟨ah rr (bx (ds:=[]) s9 rr (cm rr (cm (jd (ds:=(bV K).map λx=>.int x.2) ?_ e) (ai ?_)))),by rw[f,(aF _ _).length_eq];exact C⟩
 .show(fA dA (fV 0 (fV 1 ay)) _).bind _=_;rw[a0 [.tup aa,.int ae] rr q];rfl
 .unfold wH;show((some (D.lst (st.1.map aW),false)).bind _)=_;simp only[vJ];rw[hm];simp only[vJ];rw[hk];simp only[vJ];rw[if_pos E];unfold iH;rw[hz,<-key,uP];rfl
end Lw
namespace Lw
open PySem PySem.Spec DL L2
def iu (x:Int×OI):D:=.tup [.int x.1,uD x.2]
def jY (x:Int×OI):aR (iu x)=true:=by simp[iu,Eo]
def uH (x:Int×OI):aY 5 (iu x)=true:=by obtain⟨s,u⟩:=x;cases u<;>simp[iu,uD]
def Sf {zs:LS}{i:Int}(h1 : -(zs.length:Int)<=i)(h2:i<zs.length):∃z∈zs,dI (.lst (zs.map .str)) (.int i)=sS z:=by
 obtain⟨j,hj,hl⟩:∃j,GN (zs.map D.str).length i=some j/\j<zs.length:=by
  unfold GN;rw[vI];by_cases h0:0<=i
  .simp_all
  .rw[if_neg h0,if_pos N9];exact⟨_,rr,N9⟩
 simp_all[ly]
def MR:LN:=[7,255,3,15]
noncomputable def MS:LN:=[1,2,3,4,5,7,128,255]
inductive Dd:Str->List D->Prop
 |root (o r:Str) (m:Nat) (hm:m∈MR) (f:Int):Dd ("root" : Str) [.str o,.int m,.int f,.str r]
 |named (d:Int) (o p:Str):Dd ("named" : Str) [.int d,.str o,.str p]
 |chosen (d:Int) (b o p:Str) (s:Int):Dd ("chosen" : Str) [.int d,.str b,.str o,.str p,.int s]
 |heir (d:Int) (b o p:Str):Dd ("heir" : Str) [.int d,.str b,.str o,.str p]
 |three (k:Str) (hk:k = "death" \/ k = "lost" \/ k = "found") (d:Int) (p:Str):Dd k [.int d,.str p]
 |leave (d:Int) (b p:Str) (m:Nat) (hm:m∈MS) (x:Int×Option Int) (f:Int):Dd ("leave" : Str) [.int d,.str b,.str p,.int m,iu x,.int f]
 |paper (k:Str) (hk:k = "paper" \/ k = "like") (d:Int) (b:Str) (m:Nat) (hm:m∈MS) (x:Int×Option Int) (r:List D) (hf:aX r=true) (hp:r.all (aY 5)=true):Dd k (.int d::.str b::.int m::iu x::r)
 |copy (k:Str) (hk:k = "copy" \/ k = "call") (d:Int) (b:Str) (n:Nat):Dd k [.int d,.str b,.int n]
def Dd.cd (h:Dd k r):Cd k r:=by
 cases h with
 |root o r m hm f=>exact .root _ _ _ _
 |named d o p=>exact .named _ _ _
 |chosen d b o p s=>exact .chosen _ _ _ _ _
 |heir d b o p=>exact .heir _ _ _ _
 |three k hk d p=>exact .three _ hk _ _
 |leave d b p m hm x f=>exact .other _ (.inl rr) _ _ _ (by simp[jY]) (by simp_all[uH])
 |paper k hk d b m hm x r hf hp=>exact .other _ (hk.elim (λh=>.inr (.inl h)) λh=>.inr (.inr (.inl h))) _ _ _ (by simp[hf,jY]) (by simp_all[uH])
 |copy k hk d b n=>exact .other _ (hk.elim (λh=>.inr (.inr (.inr (.inl h)))) λh=>.inr (.inr (.inr (.inr h)))) _ _ _ rr X9
def Dd.flat (h:Dd k r):aX r=true:=h.cd.deed.flat
def bv (r:D):Prop:=∃h k aj,r=row h k aj/\Dd k aj
def bv.c (g:bv r):wZ r:=by obtain⟨h,k,aj,e,d⟩:=g;exact⟨h,k,aj,e,d.cd⟩
def bv.flat (g:bv r):aR r=true:=g.c.rp.flat
noncomputable def nu (aa:LD):LS:=(aa.filter aG).map (ao 0)
def Gm (aa:LD)(r:D):nu (aa++[r])=nu aa++if aG r=true then [ao 0 r]else []:=by
 grind[nu]
def kT (a b:Nat):g9 [.int a,.int b]=sO (decide (a &&& b=b)):=by
 have:Builtin.bitAnd (a:Int) (b:Int)=((a &&& b:Nat):Int):=by simp[Builtin.bitAnd]
 simp[g9,this];lia
def fE (r:D):Nat:=(if kindOf r = "root" then dE 1 r else if kindOf r = "leave" then dE 3 r else dE 2 r).toNat
def nv (a:Int)(k:Str)(aj:LD):kindOf (row a k aj)=k:=rfl
noncomputable def bR:LS:=[("leave" : Str),"paper","like"]
def jZ (g:bv r)(h:aG r=true):∃a o rl,∃m:Nat,∃f:Int,r=row a ("root" : Str) [.str o,.int m,.int f,.str rl]/\m∈MR/\fE r=m:=by
 obtain⟨a,k,aj,rfl,d⟩:=g;have hk:k = "root":=xG h;clear h;cases d with
 |root o rl m hm f=>exact⟨a,o,rl,m,f,rr,hm,O9⟩
 |named=>exact cG hk
 |chosen=>exact cG hk
 |heir=>exact cG hk
 |three k M=>rcases M with rfl|rfl|rfl<;>exact cG hk
 |leave=>exact cG hk
 |paper k M=>rcases M with rfl|rfl<;>exact cG hk
 |copy k M=>rcases M with rfl|rfl<;>exact cG hk
def Ev (g:bv r)(h:aG r=true):av [r,.str "matters"]=sI (fE r):=by
 obtain⟨a,o,rl,m,f,rfl,_,e⟩:=jZ g h;rfl
def JX {a:Int}{k:Str}{aj:LD}(d:Dd k aj)(h:k∈bR):fE (row a k aj)∈MS/\(∃i:Nat,lG bT (.str k) (.str "matters")=sI i/\aj[i]? = some (.int (fE (row a k aj))))/\(D.str k::aj).getD (3+if k = "leave" then 1 else 0) .non=.int (fE (row a k aj))/\(3+if k = "leave" then 1 else 0)<(D.str k::aj).length:=by
 cases d with
 |leave d b p m hm x f=>
  have e:fE (row a ("leave" : Str) [.int d,.str b,.str p,.int m,iu x,.int f])=m:=O9
  refine⟨hm,⟨3,bY,rr⟩,?_,?_⟩
  .rfl
  simp
 |paper k hk d b m hm x r hf hp=>
  have hl:k ≠ "leave":=by rcases hk with rfl|rfl<;>decide +kernel
  have hr:k ≠ "root":=by rcases hk with rfl|rfl<;>decide +kernel
  have e:fE (row a k (.int d::.str b::.int m::iu x::r))=m:=by unfold fE;rw[nv,if_neg hr,if_neg hl];rfl
  rw[e];refine⟨hm,⟨2,by rcases hk with rfl|rfl<;>exact bY,rr⟩,?_,?_⟩
  .rw[if_neg hl];rfl
  simp_all
 |root=>exact cG h
 |named=>exact cG h
 |chosen=>exact cG h
 |heir=>exact cG h
 |three k M=>rcases M with rfl|rfl|rfl<;>exact cG h
 |copy k M=>rcases M with rfl|rfl<;>exact cG h
def xl (g:bv r)(h:kindOf r∈bR):av [r,.str "matters"]=sI (fE r):=by
 obtain⟨a,k,aj,rfl,d⟩:=g;obtain⟨_,⟨i,h1,h2⟩,_⟩:=JX d h;exact ba h1 h2
noncomputable def aZ:LS:=[("leave" : Str),"paper","like","copy"]
def eQ (h:k∈aZ\/k = "call"):c9 k=true:=by
 grind[lS,aZ,uu]
def pE {k:Str}{aj:LD}(d:Dd k aj)(h:c9 k=true):∃(dd:Int)(b:Str)(r:LD),aj=.int dd::.str b::r:=d.cd.deed.slg h
def Ew (g:bv r)(h:c9 (kindOf r)=true):av [r,.str "by"]=sS (cH r):=by
 obtain⟨a,k,aj,rfl,d⟩:=g;obtain⟨dd,b,q,rfl⟩:=pE d h;exact ba (JL h) rr
noncomputable def bf (K:KL):LD:=(K.filter λx=>aG x.1).map (·.1)
theorem zF:∀(l:List (dh×D))(a:LK×LD),(a.1++l.map (·.1)).Nodup->l.foldl qC a=(a.1++l.map (·.1),a.2++l.map (·.2))
 |[],a,_=>by simp
 |p::l,a,h=>by
  have hn:p.1∉a.1:=by
   grind
  have e:qC a p=(a.1++[p.1],a.2++[p.2]):=by simp_all[qC,dc,cD]
  rw[foldl_cons,e,zF l _ (by rw[append_assoc];exact h)];simp
theorem Ex:∀ {vs:LD}{v:D},(vs.map (ao 0)).Nodup->v∈vs->br (vs.map λv=>(.inr (ao 0 v):dh)) vs (.inr (ao 0 v))=some v
 |w::vs,v,h,hv=>by
  rw[uY,nodup_cons]at h;rw[uY,br];rcases vP hv with rfl|hv
  .rw[if_pos rr]
  .rw[if_neg λz=>h.1 (by grind)];exact Ex h.2 hv
section
variable {K:KL}(hn:((bf K).map (ao 0)).Nodup)
include hn
theorem lV:bE (nj K)=((bf K).map λv=>(.inr (ao 0 v):dh),bf K):=by
 have e:nj K=(bf K).map λv=>((.inr (ao 0 v):dh),v):=by unfold nj bf;rw[uP];rfl
 have M:((bf K).map λv=>(.inr (ao 0 v):dh)).Nodup:=by
  refine pairwise_map.mpr ((pairwise_map.mp hn).imp λh z=>h (Sum.inr.inj z))
 rw[e];unfold bE;rw[zF _ _ (by rw[uP];exact M),uP,uP];congr 1;exact map_id _
theorem Gn (hv:v∈bf K):uB K (ao 0 v)=some v:=by
 simp_all[uB,lV,Ex]
end
noncomputable def NL (j:Nat):D->Int×OI
 |.tup [_,.tup (_::aj)]=>match aj[j]? with
  |some (.tup [.int s,.int u])=>(s,some u)
  |some (.tup [.int s,.non])=>(s,none)
  |_=>(0,none)
 |_=>(0,none)
def xm {h:Int}{k:Str}{aj:LD}{j:Nat}{x:Int×OI}(e:aj[j]? = some (iu x)):NL j (row h k aj)=x:=by
 unfold NL row;dsimp only;rw[e];obtain⟨s,u⟩:=x;cases u<;>rfl
def eU (r:D):Int×OI:=if kindOf r = "leave" then NL 4 r else NL 3 r
def dZ (r:D):Int:=if kindOf r = "root" then dE 2 r else dE 5 r
def lW (r:D):Bool:=decide (kindOf r = "leave")
def fw {r:D}(g:bv r)(h:kindOf r = "leave"):∃a d b p,∃m:Nat,∃x f,r=row a ("leave" : Str) [.int d,.str b,.str p,.int m,iu x,.int f]/\m∈MS/\fE r=m/\eU r=x/\dZ r=f:=by
 obtain⟨a,k,aj,rfl,d⟩:=g;have hk:k = "leave":=h;clear h;cases d with
 |leave d b p m hm x f=>exact⟨a,d,b,p,m,x,f,rr,hm,O9,by unfold eU;rw[nv,if_pos rr];exact xm rr,O9⟩
 |root=>exact cG hk
 |named=>exact cG hk
 |chosen=>exact cG hk
 |heir=>exact cG hk
 |three k M=>rcases M with rfl|rfl|rfl<;>exact cG hk
 |paper k M=>rcases M with rfl|rfl<;>exact cG hk
 |copy k M=>rcases M with rfl|rfl<;>exact cG hk
def Ey {a:Int}{k:Str}{aj:LD}(d:Dd k aj)(h:k∈bR):(∃i:Nat,lG bT (.str k) (.str "stretch")=sI i/\aj[i]? = some (iu (eU (row a k aj))))/\(D.str k::aj).getD (4+if k = "leave" then 1 else 0) .non=iu (eU (row a k aj))/\(4+if k = "leave" then 1 else 0)<(D.str k::aj).length:=by
 cases d with
 |leave d b p m hm x f=>
  have e:eU (row a ("leave" : Str) [.int d,.str b,.str p,.int m,iu x,.int f])=x:=by unfold eU;rw[nv,if_pos rr];exact xm rr
  rw[e];exact⟨⟨4,bY,rr⟩,rr,X9⟩
 |paper k hk d b m hm x r hf hp=>
  have hl:k ≠ "leave":=by rcases hk with rfl|rfl<;>decide +kernel
  have e:eU (row a k (.int d::.str b::.int m::iu x::r))=x:=by unfold eU;rw[nv,if_neg hl];exact xm rr
  rw[e,if_neg hl];exact⟨⟨3,by rcases hk with rfl|rfl<;>exact bY,rr⟩,rr,X9⟩
 |root=>exact cG h
 |named=>exact cG h
 |chosen=>exact cG h
 |heir=>exact cG h
 |three k M=>rcases M with rfl|rfl|rfl<;>exact cG h
 |copy k M=>rcases M with rfl|rfl<;>exact cG h
def Ez (g:bv r)(h:kindOf r∈bR):av [r,.str "stretch"]=some (iu (eU r),false):=by
 obtain⟨a,k,aj,rfl,d⟩:=g;obtain⟨⟨i,h1,h2⟩,_⟩:=Ey d h;exact ba h1 h2
def xn (h:kindOf r = "leave"):kindOf r∈bR:=by rw[h];decide +kernel
def Pn (g:bv r)(h:aG r=true\/kindOf r = "leave"):av [r,.str "further"]=sI (dZ r):=by
 rcases h with h|h
 .obtain⟨a,o,rl,m,f,rfl,_,_⟩:=jZ g h;rfl
 .refine cX λG K=>?_;obtain⟨a,d,b,p,m,x,f,e,_,_,_,M⟩:=fw g h;apply K;rw[e];rfl
def kg (r v:D):Bool:=decide (fE v &&& fE r=fE r) && !(lW r && decide (dZ v<=dZ r))
def o7 (r v:D):D:=if decide (fE v &&& fE r=fE r)=true then (if(lW r && decide (dZ v<=dZ r))=true then .str "further" else .non)else .str "matters"
def zG (b:bv r)(gv:bv v)(i:kindOf r∈bR)(kv:aG v=true\/kindOf v = "leave"):∃d,jR [r,v]=some (d,false)/\Tn d .non=sO (kg r v)/\d=o7 r v:=by
 have e:=kv.elim (Ev gv) λh=>xl gv (xn h);have f:bJ (fA g9 (ak (fA av (fV 1 (ak (fS "matters") ay))) (ak (fA av (fV 0 (ak (fS "matters") ay))) ay))) [some (r,false),some (v,false)]=some _:=bB (a0 _ (a7 (a0 [v,.str "matters"] rr e) (a7 (a0 [r,.str "matters"] rr (xl b i)) rr)) (kT _ _));have j:bJ (f2 ko (fA bo (fV 0 ay)) (fS "leave")) [some (r,false),some (v,false)]=some (lW r):=bH (a:=kindOf r) (bb:=false) (a0 [r] rr (ir b.c)) rr;have k:lW r=true->bJ (f2 iGe (fA av (fV 0 (ak (fS "further") ay))) (fA av (fV 1 (ak (fS "further") ay)))) [some (r,false),some (v,false)]=some _:=λh=>bB (aJ (.int (dZ r)) (.int (dZ v)) (a0 [r,.str "further"] rr (Pn b (.inr (xG h)))) (a0 [v,.str "further"] rr (Pn gv kv)) rr);have g:=bS j k;unfold kg;cases M:decide (fE v &&& fE r=fE r) with
 |false=>exact⟨.str "matters",ah rr (aP (aK (p:=false) (f.trans (by rw[M]))) (ai rr)),rr,by simp only[o7,M];rfl⟩
 |true=>
  cases O:(lW r && decide (dZ v<=dZ r)) with
  |true=>exact⟨.str "further",ah rr (am (aK (p:=true) (f.trans (by rw[M]))) (aP (g.trans (by rw[O])) (ai rr))),rr,by simp only[o7,M,O];rfl⟩
  |false=>exact⟨.non,ah rr (am (aK (p:=true) (f.trans (by rw[M]))) (am (g.trans (by rw[O])) (ai rr))),rr,by simp only[o7,M,O];rfl⟩
def jq (h:k∈bR):k∈aZ:=by
 have:∀k∈bR,k∈aZ:=S9
 exact this k h
def gZ (h:kindOf r∈bR):aG r=false:=by
 have:∀k∈bR,decide (k = "root")=false:=S9
 exact this _ h
def rM (g:bv r)(h:aG r=false):bp [r]=sI (a8 r):=by
 have:=rj g.c;simp_all[sW]
def rN (cs:List Cl)(r v:D):Bool:=gI cs (ao 0 v) (ao 3 v) (cH r) (a8 r) && kg r v
def JY (cs:List Cl)(r v:D):D:=if gI cs (ao 0 v) (ao 3 v) (cH r) (a8 r)=true then o7 r v else .str "holder"
def NM (cs:List Cl)(M:cs.length<=60)(O:bv r)(gv:bv v)(b:kindOf r∈bR)(hv:aG v=true):∃d,fJ [.lst (cs.map aW),r,v]=some (d,false)/\Tn d .non=sO (rN cs r v)/\d=JY cs r v:=by
 obtain⟨d,e1,e2,g⟩:=zG O gv b (.inl hv);have e:bJ (fA cV (fV 0 (fV 2 (ak (fA av (fV 1 (ak (fS "by") ay))) (ak (fA bp (fV 1 ay)) ay))))) [sL (cs.map aW),some (r,false),some (v,false)]=some (gI cs (ao 0 v) (ao 3 v) (cH r) (a8 r)):=by
  refine bB (a0 _ (aM rr (aM rr (a7 (a0 _ rr (Ew O (eQ (.inl (jq b))))) (a7 (a0 [r] rr (rM O (gZ b))) rr)))) ?_);obtain⟨a,o,rl,m,f,rfl,_,_⟩:=jZ gv hv;exact xf cs M _ _
 unfold rN;cases c:gI cs (ao 0 v) (ao 3 v) (cH r) (a8 r) with
 |false=>exact⟨.str "holder",ah rr (aP (aK (p:=false) (e.trans (by rw[c]))) (ai rr)),rr,by simp only[JY,c];rfl⟩
 |true=>exact⟨d,ah rr (am (aK (p:=true) (e.trans (by rw[c]))) (ai (a0 [r,v] rr e1))),e2,by grind[JY]⟩
def BD (cs:List Cl)(r v:D):Int:=match dX cs (ao 0 v) (ao 3 v) (a8 r) with
 |.tup [_,_,.int n]=>n
 |_=>0
def JZ (h:gI cs o rl p day=true):∃n:Int,dX cs o rl day=.tup [.str "one",.str p,.int n]:=by
 unfold gI dX at h;unfold dX;generalize Tw cs o _=M at h |-;cases M with
 |nil=>
  have h:cZ (.tup [.str _]) _=true:=h;simp_all
 |cons b r=>
  rw[pf]at h |-;split at h
  .have h:cZ (.tup [.str _,.lst _]) _=true:=h;simp_all
  .rename_i hn;rw[if_neg hn];have h:cZ (.tup [.str _,.str _]) _=true:=h;simp_all
def xo (h:gI cs (ao 0 v) (ao 3 v) (cH r) (a8 r)=true):dX cs (ao 0 v) (ao 3 v) (a8 r)=.tup [.str "one",.str (cH r),.int (BD cs r v)]:=by
 obtain⟨n,e⟩:=JZ h;unfold BD;rw[e]
def VN (cs:List Cl)(r v:D):D:=.tup [.str "office",.str (ao 0 v),.int (BD cs r v)]
def rO (g:∀r∈aa,bv r)(hv:v∈bf (ag aa ae)):bv v/\aG v=true:=by
 obtain⟨x,hx,rfl⟩:=vO hv;obtain⟨h1,h2⟩:=vN hx;exact⟨g _ (vL (aB h1)),h2⟩
def Ka (hl:aa.length<=60)(ae:Int):(bf (ag aa ae)).length<=60:=by
 unfold bf;rw[vI];exact vR (vM _ _) (vR (bI _ _) hl)
def Go {aa:LD}(g:∀r∈aa,bv r)(hl:aa.length<=60)(ae:Int)(hn:((bf (ag aa ae)).map (ao 0)).Nodup)(cs:List Cl)(O:cs.length<=60){e:Nat}{r:D}(hr:aa[e]? = some r)(k:kindOf r∈bR):
    gA [.tup aa,.int ae,.lst (cs.map aW),.int e]=lT (((bf (ag aa ae)).filter (rN cs r)).map (VN cs r)):=by
  have l:eD aa:=⟨hl,λr hr=>(g r hr).c⟩;have h:=g r (vL hr);have p:=Ka hl ae;have h1:=de (fi:=wK (fA gU (fV 0 (fV 1 ay)))) (nT:=1) (cap:=[2,4]) (tg:=fz 0) (c:=bJ (f2 Tn (fA fJ (fV 1 (fV 2 (fV 0 ay)))) (fC .non))) (fe:=aq 0)
    (ρ:=[sT aa,sI ae,sL (cs.map aW),sI e,some (r,false),none]) (bf (ag aa ae)) id (rN cs r) id
    (by show(fA gU _ _).bind _=_;rw[a0 [.tup aa,.int ae] rr (nn l ae),lV hn];simp) N9 λv hv=>by
      obtain⟨gv,M⟩:=rO g hv;obtain⟨d,e1,e2,_⟩:=NM cs O h gv k M;exact⟨[some (v,false),sL (cs.map aW),some (r,false)],rr,bB (aJ d .non (a0 [.lst (cs.map aW),r,v] rr e1) rr e2),λ_=>⟨false,rr⟩⟩
  rw[map_id]at h1;have n:aX ((bf (ag aa ae)).filter (rN cs r))=true:=b8 λv hv=>(rO g (vN hv).1).1.flat;refine ah rr (fu r (aJ (.tup aa) (.int e) rr rr (by simp[bi hr])) h.flat (bx h1 n (ai ?_)));refine ge (fi:=df (aq 5)) (nT:=1) (cap:=[2,4]) (tg:=fz 0)
     ((bf (ag aa ae)).filter (rN cs r)) id (VN cs r) X9 (vR (vM _ _) N9) λv hv=>?_
  obtain⟨i,j⟩:=vN hv;obtain⟨gv,M⟩:=rO g i;have b:(gI cs (ao 0 v) (ao 3 v) (cH r) (a8 r) && kg r v)=true:=j;rw[vC]at b;have hh:=xo b.1;refine⟨[some (v,false),sL (cs.map aW),some (r,false)],rr,false,?_⟩;obtain⟨a,o,rl,m,f,rfl,_,_⟩:=jZ gv M;refine a0 [.str "office",.str o,.int (BD cs r _)] (aM rr (a7 (a0 _ rr ph) (aM (aJ (dX cs o rl (a8 r)) (.int 2) (a0 _ (aM rr (aM rr (a7 (a0 [r] rr (rM h (gZ k))) rr))) (jp cs O _)) rr ?_) rr))) (bd _ X9);have hh:dX cs o rl (a8 r)=_:=hh;rw[hh];rfl
noncomputable def E1 (day:Int)(x:Int×OI):Bool:=decide (x.1<=day) && (match x.2 with|none=>true|some u=>decide (day<u))
noncomputable def VO:OI->OI->Bool
 |_,none=>true
 |none,some _=>false
 |some x,some y=>decide (x<=y)
def NN (a b:OI):io [uD a,uD b]=sO (VO a b):=by
 cases b with
 |none=>rfl
 |some y=>
  cases a with
  |none=>rfl
  |some x=>rfl
def Kb (a b:Int×OI):Bool:=decide (b.1<=a.1) && VO a.2 b.2
def Kc (a b:Int×OI):gW [iu a,iu b]=sO (Kb a b):=
 ah rr (ai (bP (b1:=false) (by simp[iu,sv]) λ_=>a0 _ (aM (by simp[iu,sV]) (aM (by simp[iu,sV]) rr)) (NN _ _)))
def Po {aa:LD}{i:Nat}{r:D}(hr:aa[i]? = some r)(g:bv r)(h:aG r=false):gp [.tup aa,.int i]=sT [.int (a8 r),.int i]:=
 ah rr (ai (a0 _ (aM (a0 _ (by simp[bi hr]) (rM g h)) rr) s9))
def Z8 (a b c d:Int):YI (.tup [.int a,.int b]) (.tup [.int c,.int d])=sO (decide (a<c\/(a=c/\b<d))):=by
 show(aU _ _).map _=_;rw[NA];rfl
def zH {aa:LD}{i j:Nat}{x y:D}(hx:aa[i]? = some x)(hy:aa[j]? = some y)(M:bv x)(O:bv y)(nx:aG x=false)(a:aG y=false):gB [.tup aa,.int i,.int j]=sO (bF (x,i) (y,j)):=
 ah rr (ai (aJ _ _ (a0 _ rr (Po hx M nx)) (a0 _ rr (Po hy O a)) (Z8 _ _ _ _)))
def xp (r:D)(M:Nat)(x:D×Nat):Bool:=bF x (r,M) && ((E1 (a8 r) (eU x.1) && Kb (eU r) (eU x.1)) && kg r x.1)
def E2 (r:D)(M:Nat)(x:D×Nat):D:=if bF x (r,M)=true then (if(E1 (a8 r) (eU x.1) && Kb (eU r) (eU x.1))=true then o7 r x.1 else .str "days")else .str "order"
def NO {aa:LD}{O M:Nat}{r l:D}(hr:aa[O]? = some r)(hl:aa[M]? = some l)(b:bv r)(e:bv l)(f:kindOf r∈bR)(g:kindOf l = "leave"):∃d,jS [.tup aa,.int O,.int M]=some (d,false)/\Tn d .non=sO (xp r O (l,M))/\d=E2 r O (l,M):=by
 have j:=gZ f;have o:=gZ (xn g);obtain⟨d,e1,e2,q⟩:=zG b e f (.inr g);let E:DL.Env:=[sT aa,sI O,sI M,some (r,false),some (iu (eU l),false)];have m:∀ρ:DL.Env,ρ[0]? = some (sT aa)->ρ[2]? = some (sI M)->f2 dI (aq 0) (aq 2) ρ=some (l,false):=λρ h0 h2=>aJ (.tup aa) (.int M) (by simp[h0]) (by simp[h2]) (by simp[bi hl]);have i:bJ (fA gB (fV 0 (fV 2 (fV 1 ay)))) E=some (bF (l,M) (r,O)):=bB (a0 [.tup aa,.int M,.int O] rr (zH hl hr e b o j));have s:bJ (fA kL (ak (fA bp (fV 3 ay)) (fV 4 ay))) E=some (E1 (a8 r) (eU l)):=bB (a0 [.int (a8 r),iu (eU l)] (a7 (a0 [r] rr (rM b j)) (aM rr rr)) (xa _ _ _));have t:bJ (fA gW (ak (fA av (fV 3 (ak (fS "stretch") ay))) (fV 4 ay))) E=some (Kb (eU r) (eU l)):=bB (a0 [iu (eU r),iu (eU l)] (a7 (a0 [r,.str "stretch"] rr (Ez b f)) (aM rr rr)) (Kc _ _));have n:=bc (aK s) λ_=>aK t;have go:∀(h:FS)(res:Option Res),h E=res->bN (dN 3 (f2 dI (aq 0) (aq 1))) (bN (dN 4 (fA av (ak (f2 dI (aq 0) (aq 2)) (ak (fS "stretch") ay)))) h) [sT aa,sI O,sI M,none,none]=res:=λh res k=>
  fu r (aJ (.tup aa) (.int O) rr rr (by simp[bi hr])) b.flat (fu (iu (eU l)) (a0 [l,.str "stretch"] (a7 (m _ rr rr) rr) (Ez e (xn g))) (jY _) k)
 unfold xp;cases a:bF (l,M) (r,O) with
 |false=>exact⟨.str "order",ah rr (go _ _ (aP (aK (p:=false) (i.trans (by rw[a]))) (ai rr))),rr,by simp only[E2,a];rfl⟩
 |true=>
  cases c:(E1 (a8 r) (eU l) && Kb (eU r) (eU l)) with
  |false=>exact⟨.str "days",ah rr (go _ _ (am (aK (p:=true) (i.trans (by rw[a]))) (aP (n.trans (by rw[<-Bool.not_and,c];rfl)) (ai rr)))),rr,by simp only[E2,a,c];rfl⟩
  |true=>exact⟨d,ah rr (go _ _ (am (aK (p:=true) (i.trans (by rw[a]))) (am (n.trans (by rw[<-Bool.not_and,c];rfl)) (ai (a0 [r,l] (aM rr (a7 (m _ rr rr) rr)) e1))))),e2,by rw[q];simp only[E2,a,c];rfl⟩
def lX {aa:LD}{ae:Int}{i:Nat}{r:D}(hr:aa[i]? = some r)(g:bv r):gz [.tup aa,.int ae,.int i]=sO (decide (aT r<=ae) && lW r):=by
 have M:cz [.tup aa,.int ae,.int i]=sO (decide (aT r<=ae)):=by
  obtain⟨a,k,aj,rfl,d⟩:=g;exact jX hr _
 exact ah rr (ai (bP (a0 _ rr M) λ_=>aJ _ _ (a0 _ (aM (aJ _ _ rr rr (by simp[bi hr])) rr) (ir g.c)) rr (by simp[lW])))
noncomputable def BE (K:KL)(p:Str):KL:=(K.filter λx=>lW x.1).filter λx=>decide (ao 2 x.1=p)
def zJ (g:∀r∈aa,bv r)(h:x∈BE (ag aa ae) p):aa[x.2]? = some x.1/\bv x.1/\kindOf x.1 = "leave":=by
 obtain⟨h1,_⟩:=vN h;obtain⟨h2,h3⟩:=vN h1;exact⟨aB h2,g _ (vL (aB h2)),xG h3⟩
def Gp {aa:LD}(g:∀r∈aa,bv r)(hl:aa.length<=60)(ae:Int)(p:Str):jT [.tup aa,.int ae,.str p]=lT ((BE (ag aa ae) p).map λx=>.int x.2):=by
 have O:=bI aa ae;have h1:=de (fi:=df (fA dS (fV 0 (fV 1 ay)))) (nT:=1) (cap:=[0,1]) (tg:=fz 0) (c:=bJ (fA gz (fV 1 (fV 2 (fV 0 ay))))) (fe:=aq 0)
  (ρ:=[sT aa,sI ae,sS p,none]) _ _ _ _
  (by show(fA dS _ _).bind _=_;rw[a0 _ rr (jW aa (λr hr=>(g r hr).c.rp) N9 ae)];rfl) N9 λx hx=>by
   have hk:=(vN hx).2;have:=lX (ae:=ae) (aB hx) (g _ (vL (aB hx)));rw[hk,Bool.true_and]at this;exact⟨_,rr,bB (a0 _ rr this),λ_=>⟨false,rr⟩⟩
 have M:aX (((ag aa ae).filter λx=>lW x.1).map λx=>D.int x.2)=true:=b8 λd hd=>by obtain⟨x,_,rfl⟩:=vO hd;rfl
 refine ah rr (bx h1 M (ai ?_));refine de (fi:=df (aq 3)) (nT:=1) (cap:=[2,0]) (tg:=fz 0) (fe:=aq 0)
  (ρ:=[sT aa,sI ae,sS p,lT (((ag aa ae).filter λx=>lW x.1).map λx=>.int x.2)]) ((ag aa ae).filter λx=>lW x.1) (λx=>.int x.2) _ _ X9 (vR (vM _ _) N9) λx hx=>?_
 refine cX λG K=>?_;obtain⟨h2,h3⟩:=vN hx;obtain⟨a,d,b,q,m,st,f,e,_⟩:=fw (g _ (vL (aB h2))) (xG h3);apply K;refine⟨[sI x.2,sS p,sT aa],rr,bB (aJ (.str (ao 2 x.1)) (.str p) (a0 [x.1,.str "person"] (aM (aJ (.tup aa) (.int x.2) rr rr (by simp[bi (aB h2)])) rr) ?_) rr X9),λ_=>⟨false,rr⟩⟩;rw[e];rfl
def Gr {aa:LD}(g:∀r∈aa,bv r)(hl:aa.length<=60)(ae:Int){M:Nat}{r:D}(hr:aa[M]? = some r)(a:kindOf r∈bR):
    iq [.tup aa,.int ae,.int M]=lT (((BE (ag aa ae) (cH r)).filter (xp r M)).map λx=>.tup [.str "leave",.int x.2]):=by
  have b:=g r (vL hr);have c:=bI aa ae;have e:(BE (ag aa ae) (cH r)).length<=60:=vR (vM _ _) (vR (vM _ _) N9);have O:aX ((BE (ag aa ae) (cH r)).map λx=>D.int x.2)=true:=b8 λd hd=>by obtain⟨x,_,rfl⟩:=vO hd;rfl
  refine ah rr (bx (a0 _ (aM rr (aM rr (a7 (a0 _ (aM (aJ _ _ rr rr (by simp[bi hr])) rr) (Ew b (eQ (.inl (jq a))))) rr))) (Gp g hl _ _)) O (ai ?_));refine de
     _ (λx=>.int x.2) _ _ X9 N9 λx hx=>?_
  obtain⟨h1,h2,h3⟩:=zJ g hx;obtain⟨d,e1,e2,_⟩:=NO hr h1 b h2 a h3;exact⟨[sF _,sF _,sF _],rr,bB (aJ d _ (a0 _ rr e1) rr e2),λ_=>⟨false,a0 _ rr (bd _ X9)⟩⟩
abbrev Bs:=Option Str×Int
noncomputable def Lv:Bs->D
 | (some o,n)=>.tup [.str "office",.str o,.int n]
 | (none,n)=>.tup [.str "leave",.int n]
noncomputable def zK:Bs->List At
 | (some o,n)=>[.i n,.s ("office" : Str),.s o,.i n]
 | (none,n)=>[.i n,.s ("leave" : Str),.i n]
def Kd (b:Bs):aR (Lv b)=true:=by rcases b with⟨_|o,n⟩<;>rfl
def NP (b:Bs):dI (Lv b) (.int (-1))=sI b.2:=by rcases b with⟨_|o,n⟩<;>rfl
def Ke (a b:Bs):(aU (zK a) (zK b)).isSome=true:=by
 have O:("office" : Str) ≠ "leave":=S9
 rcases a with⟨_|o,n⟩<;>rcases b with⟨_|o',M⟩
 .show(aU [.i n,.s _,.i n] [.i M,.s _,.i M]).isSome=true;rw[aU];split
  .simp_all[aU]
  .rfl
 .show(aU [.i n,.s _,.i n] [.i M,.s _,.s o',.i M]).isSome=true;rw[aU];split
  .rfl
  .rfl
 .show(aU [.i n,.s _,.s o,.i n] [.i M,.s _,.i M]).isSome=true;rw[aU];split
  .rfl
  .rfl
 .show(aU [.i n,.s _,.s o,.i n] [.i M,.s _,.s o',.i M]).isSome=true;rw[aU];split
  .rw[aU,if_pos rr,aU];split
   .simp_all[aU]
   .rfl
  .rfl
def NQ (h:zK a=zK b):a=b:=by
 rcases a with⟨_|o,n⟩<;>rcases b with⟨_|o',M⟩<;>simp[zK]at h
 .rw[h]
 simp_all
def E3 (l:List Bs):da (l.map zK)=true:=by
 simp_all[da,Ke]
theorem Kf (e:bZ (zK a)=bZ (zK b)):a=b:=NQ (nZ (E3 [a,b]) X9 X9 e)
def toB (cs:List Cl)(r v:D):Bs:=(some (ao 0 v),BD cs r v)
def BF (K:KL)(cs:List Cl)(r:D)(M:Nat):List Bs:=((bf K).filter (rN cs r)).map (toB cs r)++((BE K (cH r)).filter (xp r M)).map λx=>(none,(x.2:Int))
def Sg (K:KL)(cs:List Cl)(r:D)(M:Nat):List Bs:=dq (λb=>bZ (zK b)) (BF K cs r M)
def Gs (hn:((bf (ag aa ae)).map (ao 0)).Nodup)(cs:List Cl)(r:D)(M:Nat):(BF (ag aa ae) cs r M).Nodup:=by
 unfold BF;rw[nodup_append];refine⟨?_,?_,?_⟩
 .exact pairwise_map.mpr ((List.Pairwise.sublist filter_sublist (pairwise_map.mp hn)).imp λh e=>h (vK (Prod.mk.inj e).1))
 .refine pairwise_map.mpr ((List.Pairwise.sublist (filter_sublist.trans (filter_sublist.trans filter_sublist)) (pairwise_map.mp (cY _ _))).imp λh e=>h ?_);lia
 .intro a ha b hb e;obtain⟨v,_,rfl⟩:=vO ha;obtain⟨x,_,rfl⟩:=vO hb;cases (Prod.mk.inj e).1
theorem uI {α:Type}{g:α->D}{h:α->List At}:∀(l:List α),(∀x∈l,RG (g x)=some (h x))->ln (l.map g)=some (l.map h)
 |[],_=>rr
 |x::l,k=>by
  rw[uY,ln,k x mX,uI l λy hy=>k y (mZ _ hy)];rfl
def E4 (hl:aa.length<=30)(ae:Int)(cs:List Cl)(r:D)(M:Nat):(BF (ag aa ae) cs r M).length<=60:=by
 have h1:((bf (ag aa ae)).filter (rN cs r)).length<=30:=by
  grind[bf,bI]
 grind[bI,BE,BF]
def Kg {f:FE}{ρ:DL.Env}{b:Bool}(l:List Bs)(hl:l.length<=60)(hn:l.Nodup)(e:f ρ=some (.lst (l.map Lv),b)):Bu f (yM [] (fA dn (ak (f2 dI (aq 0) (f1 HN (fI 1))) (fV 0 ay)))) ρ=lT ((dq (λb=>bZ (zK b)) l).map Lv):=by
 have hm:jF (yM [] (fA dn (ak (f2 dI (aq 0) (f1 HN (fI 1))) (fV 0 ay))) ρ) _=some _:=gF l λb _=>by
  show(fA dn _ _).map _=_;rw[a0 _ (aM (aJ (Lv b) _ rr rr (NP b)) (aM rr rr)) (bd _ X9)];rfl
 have hk:ln (l.map λb=>D.tup [.int b.2,Lv b])=some (l.map zK):=uI l λb _=>by rcases b with⟨_|o,n⟩<;>rfl
 have M:(l.map zK).length<64/\da (l.map zK)=true/\True/\((l.map zK).map bZ).Nodup:=by
  refine⟨by rw[vI];lia,E3 l,trivial,?_⟩;rw[uP];exact pairwise_map.mpr (List.Pairwise.imp (λh e=>h (Kf e)) hn)
 unfold Bu wG;rw[e];simp only[vJ];rw[hm];simp only[vJ];rw[hk];simp only[vJ];rw[if_pos M];unfold iH;have key:((dq (λb=>bZ (zK b)) l).map λb=>(zK b,Lv b))=dq (λp=>bZ p.1) (l.map λb=>(zK b,Lv b)):=by
  refine jD _ (λx hx y hy e=>?_) ((aF _ _).map _) ?_
  .grind[Kf]
  .exact pairwise_map.mpr (eG _ _)
 rw[zip_map',<-key,uP];rfl
section
variable {aa:LD}(g:∀r∈aa,bv r) (hl:aa.length<=30) (ae:Int) (hn:((bf (ag aa ae)).map (ao 0)).Nodup)
include g hl hn
theorem zL (cs:List Cl)(n:cs.length<=60){M:Nat}{r:D}(hr:aa[M]? = some r)(e:kindOf r∈bR)(hk:aT r<=ae):dC [.tup aa,.int ae,.lst (cs.map aW),.int M]=lT ((Sg (ag aa ae) cs r M).map Lv):=by
 have f:=g r (vL hr);have l:∀(ρ:DL.Env)(j:Nat),ρ[0]? = some (sT aa)->ρ[j]? = some (sI M)->fA bo (ak (f2 dI (aq 0) (aq j)) ay) ρ=sS (kindOf r):=λρ j h0 h2=>a0 [r] (aM (aJ (.tup aa) (.int M) (by simp[h0]) (by simp[h2]) (by simp[bi hr])) rr) (ir f.c);have o:cz [.tup aa,.int ae,.int M]=sO true:=by
  obtain⟨a,k,aj,rfl,d⟩:=id f;rw[jX hr ae,mf (show a<=ae from hk)]
 have h:eN [.tup aa,.int ae,.int M]=sO (decide _):=ah rr (ai (bP (p:=true) (a0 [.tup aa,.int ae,.int M] rr o) λ_=>aJ (.str (kindOf r)) (.tup ([("paper" : Str),"like","copy"].map .str)) (l _ 2 rr rr) rr (iM _ _)));have hb:eO [.tup aa,.int ae,.int M]=sO true:=by
  refine(ah rr (ai (qT (a0 [.tup aa,.int ae,.int M] rr (lX hr f)) λ_=>a0 [.tup aa,.int ae,.int M] rr h))).trans ?_;rw[mf hk,Bool.true_and];have:∀k∈bR,(decide (k = "leave") || decide (k∈[("paper" : Str),"like","copy"]))=true:=S9
  unfold lW;rw[this _ e]
 have i:decide (kindOf r = "copy")=false:=by
  have:∀k∈bR,decide (k = "copy")=false:=S9
  exact this _ e
 have m:=E4 hl ae cs r M;have q:aX ((BF (ag aa ae) cs r M).map Lv)=true:=b8 λd hd=>by obtain⟨b,_,rfl⟩:=vO hd;exact Kd b
 refine ah rr (am (aK (p:=true) (bB (a0 [.tup aa,.int ae,.int M] rr hb))) (am (bH (a:=kindOf r) (bb:=false) (l _ 3 rr rr) i) (bx ?_ q (ai (Kg (b:=false) _ m (Gs hn cs r M) rr)))));have ho:=Go g N9 ae hn cs n hr e;have hv:=Gr g N9 ae hr e;refine f8 (b1:=true) (b2:=true) (a0 _ rr ho) (a0 [.tup aa,.int ae,.int M] rr hv) ?_;have O:=m;unfold BF at O |-;rw[uZ,vI,vI]at O;refine(if_pos (cM (by grind))).trans ?_;rw[uW,uP,uP];rfl
end
def Sh (K:KL)(c r:D):Bool:=decide (cH c=cH r) || (!decide (kindOf r = "copy") && (bf K).any λv=>decide (fE v &&& fE r=fE r) && gI (aQ K) (ao 0 v) (ao 3 v) (cH c) (a8 c))
def any_filter {α:Type}(l:List α)(p f:α->Bool):((l.filter p).map f).any id=l.any λx=>p x && f x:=by
 simp
def Si {aa:LD}(g:∀r∈aa,bv r)(hl:aa.length<=60)(ae:Int)(t:(aQ (ag aa ae)).length<=60)(hn:((bf (ag aa ae)).map (ao 0)).Nodup){O b:Nat}{c r:D}(hc:aa[O]? = some c)(hr:aa[b]? = some r)(n:kindOf c = "call")(p:kindOf r∈aZ):
  lM [.tup aa,.int ae,.lst ((aQ (ag aa ae)).map aW),.int O,.int b]=sO (Sh (ag aa ae) c r):=by
 have u:eD aa:=⟨hl,λr hr=>(g r hr).c⟩;have q:=g c (vL hc);have j:=g r (vL hr);have s:=bi hc;have w:=bi hr;have y:=Ew q (eQ (.inr n));have z:=Ew j (eQ (.inl p));have l:∀v∈bf (ag aa ae),bv v/\aG v=true:=λv hv=>by
  obtain⟨x,hx,rfl⟩:=vO hv;obtain⟨h1,h2⟩:=vN hx;exact⟨g _ (vL (aB h1)),h2⟩
 have A:(bf (ag aa ae)).length<=60:=by
  unfold bf;rw[vI];exact vR (vM _ _) (vR (bI aa ae) hl)
 have B:bp [c]=sI (a8 c):=by
  have:=rj q.c;unfold sW at this;rwa [if_neg (by unfold aG;rw[n];decide +kernel)]at this
 have e:∀(h:OB),bJ (f2 ko (aq 6) (fA av (fV 5 (ak (fS "by") ay)))) [sT aa,sI ae,sL ((aQ (ag aa ae)).map aW),sI O,sI b,some (r,false),sS (cH c),h]=some (decide (cH c=cH r)):=λh=>bB (aJ (.str (cH c)) (.str (cH r)) rr (a0 [r,.str "by"] rr z) X9);have i:∀(h:OB),bJ (f2 ko (fA bo (fV 5 ay)) (fS "copy")) [sT aa,sI ae,sL ((aQ (ag aa ae)).map aW),sI O,sI b,some (r,false),sS (cH c),h]=some (decide (kindOf r = "copy")):=λh=>bH (a:=kindOf r) (bb:=false) (a0 [r] rr (ir j.c)) rr;refine ah rr (fu r (aJ (.tup aa) (.int b) rr rr (by simp[w])) j.flat (fu (.str (cH c)) (a0 [c,.str "by"] (aM (aJ (.tup aa) (.int O) rr rr (by simp[s])) rr) y) rr ?_));unfold Sh;cases h1:decide (cH c=cH r) with
 |true=>exact aP ((e none).trans (by rw[h1])) (ai rr)
 |false=>
  refine am ((e none).trans (by rw[h1])) ?_;cases h2:decide (kindOf r = "copy") with
  |true=>exact aP ((i none).trans (by rw[h2])) (ai rr)
  |false=>
   have C:kindOf r∈bR:=by
    have E:=of_decide_eq_false h2;have:∀k∈aZ,k ≠ "copy"->k∈bR:=S9
    exact this _ p E
   have pm:=xl j C;refine am ((i none).trans (by rw[h2])) ?_;have M:=de (fi:=wK (fA gU (fV 0 (fV 1 ay)))) (nT:=1) (cap:=[5]) (tg:=fz 0) (c:=bJ (fA g9 (ak (fA av (fV 0 (ak (fS "matters") ay))) (ak (fA av (fV 1 (ak (fS "matters") ay))) ay)))) (fe:=aq 0)
    (ρ:=[sT aa,sI ae,sL ((aQ (ag aa ae)).map aW),sI O,sI b,some (r,false),sS (cH c),none]) (bf (ag aa ae)) id (λv=>decide (fE v &&& fE r=fE r)) id
    (by show(fA gU _ _).bind _=_;rw[a0 [.tup aa,.int ae] rr (nn u ae),lV hn];simp) N9 λv hv=>by
     obtain⟨gv,d⟩:=l v hv;exact⟨[some (v,false),some (r,false)],rr,bB (a0 [.int (fE v),.int (fE r)] (a7 (a0 [v,.str "matters"] rr (Ev gv d)) (a7 (a0 [r,.str "matters"] rr pm) rr)) (kT _ _)),λ_=>⟨false,rr⟩⟩
   rw[map_id]at M;refine bx M (b8 λv hv=>(l v (vN hv).1).1.flat) (ai ?_);have F:=ge (fi:=df (aq 7)) (nT:=1) (cap:=[2,6,0,3]) (tg:=fz 0) (fe:=fA cV (fV 1 (fV 0 (fV 2 (ak (fA bp (ak (f2 dI (aq 3) (aq 4)) ay)) ay)))))
    (ρ:=[sT aa,sI ae,sL ((aQ (ag aa ae)).map aW),sI O,sI b,some (r,false),sS (cH c),lT ((bf (ag aa ae)).filter λv=>decide (fE v &&& fE r=fE r))]) ((bf (ag aa ae)).filter λv=>decide (fE v &&& fE r=fE r)) id (λv=>.bl (gI (aQ (ag aa ae)) (ao 0 v) (ao 3 v) (cH c) (a8 c)))
    X9 (vR (vM _ _) N9) λv hv=>by
     obtain⟨gv,d⟩:=l v (vN hv).1;obtain⟨a,o,rl,m,f,rfl,_,_⟩:=jZ gv d;exact⟨[some (row a ("root" : Str) [.str o,.int m,.int f,.str rl],false),sL ((aQ (ag aa ae)).map aW),sS (cH c),sT aa,sI O],rr,false,a0 _ (aM rr (aM rr (aM rr (a7 (a0 [c] (aM (aJ (.tup aa) (.int O) rr rr (by simp[s])) rr) B) rr)))) (xf _ t _ _)⟩
   refine(a0 [_] (a7 F rr) ?_);show(sE _).map _=_;rw[yY,Option.map_some,any_filter];rfl
def BG (g:bv r)(h:kindOf r = "call"):∃a d b,∃n:Nat,r=row a ("call" : Str) [.int d,.str b,.int n]:=by
 obtain⟨a,k,aj,rfl,d⟩:=g;have hk:k = "call":=h;clear h;cases d with
 |copy k M d b n=>subst hk;exact⟨a,d,b,n,rr⟩
 |root=>exact cG hk
 |named=>exact cG hk
 |chosen=>exact cG hk
 |heir=>exact cG hk
 |three k M=>rcases M with rfl|rfl|rfl<;>exact cG hk
 |leave=>exact cG hk
 |paper k M=>rcases M with rfl|rfl<;>exact cG hk
def NR (aa:LD)(ae:Int)(M:Nat)(r:D)(day:Int)(c:D):Bool:=decide (kindOf c = "call") && (decide (dE 2 c=M) && (decide (a8 c<=day) && (jo aa ae c && Sh (ag aa ae) c r)))
def BH (e:f ρ=some (.str a,bb)):bJ (f2 GP f (fS b)) ρ=some (!decide (a=b)):=by simp_all
section
variable {aa:LD}(g:∀r∈aa,bv r) (hl:aa.length<=60) (ae:Int) (iQ:(aQ (ag aa ae)).length<=60) (hn:((bf (ag aa ae)).map (ao 0)).Nodup)
include g hl iQ hn
theorem zM {O M:Nat}{c r:D}(hc:aa[O]? = some c)(hr:aa[M]? = some r)(k:kindOf r∈aZ)(day:Int):jj [.tup aa,.int ae,.lst ((aQ (ag aa ae)).map aW),.int O,.int M,.int day]=sO (NR aa ae M r day c):=by
 have f:=g c (vL hc);have l:=bi hc;have j:bJ (f2 GP (fA bo (fV 6 ay)) (fS "call")) [sT aa,sI ae,sL ((aQ (ag aa ae)).map aW),sI O,sI M,sI day,some (c,false)]=some (!decide (kindOf c = "call")):=BH (a:=kindOf c) (bb:=false) (a0 [c] rr (ir f.c));refine ah rr (fu c (aJ (.tup aa) (.int O) rr rr (by simp[l])) f.flat ?_);unfold NR;by_cases hk:kindOf c = "call"
 .obtain⟨a,d,b,n,i⟩:=BG f hk;have e1:dE 2 c=(n:Int):=by rw[i];rfl
  have e2:a8 c=d:=by rw[i];rfl
  have po:av [c,.str "of"]=sI n:=by rw[i];rfl
  have m:bp [c]=sI d:=by
   have:=rj f.c;unfold sW at this;rwa [if_neg (by unfold aG;rw[hk];decide +kernel),e2]at this
  have o:bJ (f2 GP (fA av (fV 6 (ak (fS "of") ay))) (aq 4)) [sT aa,sI ae,sL ((aQ (ag aa ae)).map aW),sI O,sI M,sI day,some (c,false)]=some (!decide ((n:Int)=M)):=bB (aJ (.int n) (.int M) (a0 [c,.str "of"] rr po) rr X9);have s:bJ (f2 Tk (fA bp (fV 6 ay)) (aq 5)) [sT aa,sI ae,sL ((aQ (ag aa ae)).map aW),sI O,sI M,sI day,some (c,false)]=some (decide (day<d)):=bB (aJ (.int d) (.int day) (a0 [c] rr m) rr rr);have e:=bc j λ_=>bc o λ_=>s;rw[e1,e2,mf hk,Bool.true_and];rw[mf hk]at e;by_cases h1:(n:Int)=M
  .by_cases h2:d<=day
   .rw[mf h1,mf h2,Bool.true_and,Bool.true_and];rw[mf h1,oC N9]at e;exact am e (ai (bP (a0 [.tup aa,.int ae,.int O] rr (rh aa (λr hr=>(g r hr).c.rp) N9 ae hc)) λ_=>a0 _ rr (Si g hl ae iQ hn hc hr hk k)))
   .rw[oC h2,Bool.false_and,Bool.and_false];rw[mf h1,mf (show day<d by lia)]at e;exact aP e (ai rr)
  .rw[oC h1,Bool.false_and];rw[oC h1]at e;exact aP e (ai rr)
 .rw[oC hk,Bool.false_and];refine aP (bc (p:=true) (q:=false) (j.trans (by rw[oC hk];rfl)) λh=>by cases h) (ai rr)
def BI (aa:LD)(ae:Int)(M:Nat)(r:D)(day:Int):LN:=if aT r<=ae/\kindOf r∈aZ then ((ag aa ae).filter λx=>NR aa ae M r day x.1).map (·.2)else []
theorem zN {M:Nat}{r:D}(hr:aa[M]? = some r)(day:Int):lN [.tup aa,.int ae,.lst ((aQ (ag aa ae)).map aW),.int M,.int day]=lT ((BI aa ae M r day).map λn:Nat=>.int n):=by
 have f:=g r (vL hr);have j:=bi hr;have h:cz [.tup aa,.int ae,.int M]=sO (decide (aT r<=ae)):=by
  obtain⟨a,k,aj,e,d⟩:=f;rw[e]at hr;rw[show aT r=a by rw[e];rfl];exact jX hr ae
 have i:∀ρ:DL.Env,ρ[0]? = some (sT aa)->ρ[2]? = some (sI M)->fA bo (ak (f2 dI (aq 0) (aq 2)) ay) ρ=sS (kindOf r):=λρ h0 h2=>a0 [r] (aM (aJ (.tup aa) (.int M) (by simp[h0]) (by simp[h2]) (by simp[j])) rr) (ir f.c);have l:gz [.tup aa,.int ae,.int M]=sO (decide (aT r<=ae) && decide (kindOf r = "leave")):=ah rr (ai (bP (a0 [.tup aa,.int ae,.int M] rr h) λ_=>aJ (.str (kindOf r)) (.str "leave") (i _ rr rr) rr X9));have b:eN [.tup aa,.int ae,.int M]=sF _:=ah rr (ai (bP (a0 [.tup aa,.int ae,.int M] rr h) λ_=>aJ (.str (kindOf r)) (.tup ([("paper" : Str),"like","copy"].map .str)) (i _ rr rr) rr (iM _ _)));have hb:eO [.tup aa,.int ae,.int M]=sO (decide (aT r<=ae/\kindOf r∈aZ)):=by
  refine(ah rr (ai (qT (a0 [.tup aa,.int ae,.int M] rr l) λ_=>a0 [.tup aa,.int ae,.int M] rr b))).trans ?_;congr 3;simp only[aZ,mem_cons,not_mem_nil,or_false];by_cases h1:aT r<=ae
  .simp[h1]
  .simp[h1]
 unfold BI;by_cases hx:aT r<=ae/\kindOf r∈aZ
 .rw[if_pos hx];refine ah rr (am (aK (p:=true) (bB (a0 [.tup aa,.int ae,.int M] rr (by rw[hb,mf hx])))) (ai ?_));have O:=de (fi:=df (fA dS (fV 0 (fV 1 ay)))) (nT:=1) (cap:=[0,1,2,3,4]) (tg:=fz 0) (c:=bJ (fA jj (fV 1 (fV 2 (fV 3 (fV 0 (fV 4 (fV 5 ay)))))))) (fe:=aq 0)
   (ρ:=[sT aa,sI ae,sL ((aQ (ag aa ae)).map aW),sI M,sI day]) (ag aa ae) (λx=>.int x.2) (λx=>NR aa ae M r day x.1) (λx=>.int x.2)
   (by show(fA dS _ _).bind _=_;rw[a0 [.tup aa,.int ae] rr (jW aa (λr hr=>(g r hr).c.rp) N9 ae)];rfl) (vR (bI aa ae) N9) λx m=>by
    exact⟨_,rr,bB (a0 _ rr (zM g hl ae iQ hn (aB m) hr hx.2 day)),λ_=>⟨false,rr⟩⟩
  rw[uP];exact O
 .rw[if_neg hx];exact ah rr (aP (aK (p:=false) (bB (a0 [.tup aa,.int ae,.int M] rr (by rw[hb,oC hx])))) (ai (a0 [] rr (cO _ X9))))
omit iQ in
end
def fK:LS:=[("paper" : Str),"like","copy"]
noncomputable def mi (w:Str):Bs->D
 | (some o,n)=>.tup [.str "office",.str o,.int n]
 | (none,n)=>.tup [.str w,.int n]
def Lx (r:D):Str:=if kindOf r = "copy" then ("copy" : Str)else ("leave" : Str)
def zO (w:Str)(b:Bs):aR (mi w b)=true:=by rcases b with⟨_|o,n⟩<;>rfl
def Gu {aa:LD}{n:Nat}(h:aa.length<=n)(ae:Int):cz [.tup aa,.int ae,.int n]=sO false:=by
 refine ah rr (ai (bP (p:=false) (q:=false) (b1:=false) ?_ λz=>by cases z));have h1:¬(n:Int)<aa.length:=N9
 exact(iK (p:=true) (z:=.int aa.length) (b3:=false) (b4:=false) rr rr X9 X9 λ_=>by simp[h1])
def Kh {aa:LD}{i:Nat}{r:D}(hr:aa[i]? = some r)(g:bv r)(ae:Int):cz [.tup aa,.int ae,.int i]=sO (decide (aT r<=ae)):=by
 obtain⟨a,k,aj,rfl,d⟩:=g;exact jX hr _
def E5 {aa:LD}{i:Nat}{r:D}(hr:aa[i]? = some r)(g:bv r){ρ:DL.Env}{j:Nat}(h0:ρ[0]? = some (sT aa))(hj:ρ[j]? = some (sI i)):fA bo (ak (f2 dI (aq 0) (aq j)) ay) ρ=sS (kindOf r):=
 a0 _ (aM (aJ (.tup aa) (.int i) (by simp[h0]) (by simp[hj]) (by simp[bi hr])) rr) (ir g.c)
def zP {aa:LD}{i:Nat}{r:D}(hr:aa[i]? = some r)(g:bv r)(ae:Int):eN [.tup aa,.int ae,.int i]=sO (decide (aT r<=ae) && decide (kindOf r∈fK)):=
 ah rr (ai (bP (a0 _ rr (Kh hr g _)) λ_=>aJ _ (.tup (fK.map _)) (E5 hr g rr rr) rr (iM _ _)))
def zQ {aa:LD}{i:Nat}{r:D}(hr:aa[i]? = some r)(g:bv r)(ae:Int):eO [.tup aa,.int ae,.int i]=sO (decide (aT r<=ae) && decide (kindOf r∈aZ)):=by
 refine(ah rr (ai (qT (a0 _ rr (lX hr g)) λ_=>a0 _ rr (zP hr g _)))).trans ?_;unfold lW;simp only[aZ,fK,or_false];by_cases h1:aT r<=ae
 .simp[h1]
 .simp[h1]
def nw (aa:LD)(ae:Int)(r:D)(M n:Nat):Bool:=match aa[n]? with
 |none=>false
 |some q=>(decide (aT q<=ae) && decide (kindOf q∈fK)) && bF (q,n) (r,M)
def lY (g:bv r)(h:kindOf r = "copy"):∃a d b,∃n:Nat,r=row a ("copy" : Str) [.int d,.str b,.int n]:=by
 obtain⟨a,k,aj,rfl,d⟩:=g;have hk:k = "copy":=h;clear h;cases d with
 |copy k M d b n=>subst hk;exact⟨a,d,b,n,rr⟩
 |root=>exact cG hk
 |named=>exact cG hk
 |chosen=>exact cG hk
 |heir=>exact cG hk
 |three k M=>rcases M with rfl|rfl|rfl<;>exact cG hk
 |leave=>exact cG hk
 |paper k M=>rcases M with rfl|rfl<;>exact cG hk
def rP (h:kindOf r∈fK):aG r=false:=by
 have:∀k∈fK,decide (k = "root")=false:=S9
 exact this _ h
def Gv {aa:LD}(g:∀r∈aa,bv r)(ae:Int){M:Nat}{r:D}(hr:aa[M]? = some r)(c:kindOf r = "copy"):∃n:Nat,dE 2 r=n/\ji [.tup aa,.int ae,.int M]=lT ((if nw aa ae r M n=true then [((none,(n:Int)):Bs)]else []).map (mi ("copy" : Str))):=by
 have e:=g r (vL hr);obtain⟨a,d,b,n,er⟩:=lY e c;have i:aG r=false:=rP (by rw[c];decide +kernel);have po:av [r,.str "of"]=sI n:=by rw[er];rfl
 refine⟨n,by rw[er];rfl,?_⟩;let E:DL.Env:=[sT aa,sI ae,sI M,sI n];refine ah rr (fu (.int n) (a0 [r,.str "of"] (aM (aJ (.tup aa) (.int M) rr rr (by simp[bi hr])) rr) po) rr ?_);have O:fQ (bJ (fA eN (fV 0 (fV 1 (fV 3 ay))))) (bJ (fA gB (fV 0 (fV 3 (fV 2 ay))))) E=some (nw aa ae r M n):=by
  unfold nw;cases hq:aa[n]? with
  |none=>
   have hn:aa.length<=n:=List.getElem?_eq_none_iff.mp hq;exact bS (p:=false) (q:=false) (bB (a0 [.tup aa,.int ae,.int n] rr (ah rr (ai (bP (p:=false) (q:=false) (a0 [.tup aa,.int ae,.int n] rr (Gu hn ae)) λz=>by cases z))))) λz=>by cases z
  |some q=>
   have f:=g q (vL hq);exact bS (bB (a0 [.tup aa,.int ae,.int n] rr (zP hq f ae))) λh=>by
    rw[vC]at h;exact bB (a0 [.tup aa,.int n,.int M] rr (zH hq hr f e (rP (xG h.2)) i))
 cases hv:nw aa ae r M n with
 |true=>
  rw[hv]at O;rw[if_pos rr];exact aP O (ai (a0 [.tup [.str "copy",.int n]] (aM (a0 [.str "copy",.int n] rr (bd _ X9)) rr) (cO _ X9)))
 |false=>
  rw[hv]at O;rw[if_neg H9];exact am O (ai (a0 [] rr (cO _ X9)))
def nA (aa:LD)(ae:Int)(cs:List Cl)(x:D×Nat):List Bs:=if kindOf x.1 = "copy" then (if nw aa ae x.1 x.2 (dE 2 x.1).toNat=true then [(none,dE 2 x.1)]else [])else Sg (ag aa ae) cs x.1 x.2
section
variable {aa:LD}(g:∀r∈aa,bv r) (hl:aa.length<=30) (ae:Int) (hn:((bf (ag aa ae)).map (ao 0)).Nodup)
include g hl hn
theorem NS (cs:List Cl)(O:cs.length<=60){a:Nat}{r:D}(hr:aa[a]? = some r)(d:kindOf r∈aZ)(hk:aT r<=ae):dC [.tup aa,.int ae,.lst (cs.map aW),.int a]=lT ((nA aa ae cs (r,a)).map (mi (Lx r))):=by
 have b:=g r (vL hr);unfold nA Lx;by_cases M:kindOf r = "copy"
 .rw[if_pos M,if_pos M];obtain⟨n,e1,e2⟩:=Gv g _ hr M;rw[e1];refine ah rr (am (aK (p:=true) (bB (a0 _ rr ((zQ hr b _).trans (by simp_all))))) (aP (bH (E5 hr b rr rr) (mf M)) (ai (a0 _ rr e2))))
 .rw[if_neg M,if_neg M];have c:kindOf r∈bR:=by
   simp_all[aZ,bR]
  exact zL g hl _ hn cs O hr c hk
end
def Sj (e:f (kZ ρ)=some (d,b))(k:h (ρ.set i (some (d,false)))=r):bN (Cj i f) h ρ=r:=by simp_all
def E6 (e:ρ[i]? = some (some (.dk ks vs,b))):oF i ρ=some (.rt (.dk ks vs) false):=by simp[oF,e]
def kN (x:D×Nat):dh:=.inl (x.2:Int)
def zR (aa:LD)(ae day:Int)(x:D×Nat):Bool:=(jo aa ae x.1 && decide (a8 x.1<=day)) && (BI aa ae x.2 x.1 day).isEmpty
def NT {α:Type}(l:List α)(f:α->D):decide ((((l.map f).length:Nat):Int)=0)=l.isEmpty:=by
 cases l with
 |nil=>rfl
 |cons a l=>rfl
noncomputable def lb (aa:LD)(ae day:Int)(l:KL):KL:=l.filter λx=>decide (kindOf x.1∈aZ) && zR aa ae day x
section
variable {aa:LD}(g:∀r∈aa,bv r) (hl:aa.length<=30) (ae:Int) (hn:((bf (ag aa ae)).map (ao 0)).Nodup)
include g hl hn
theorem Sk (M:(aQ (ag aa ae)).length<=60){O:Nat}{r:D}(hr:aa[O]? = some r)(d:kindOf r∈aZ)(day:Int):mQ [.tup aa,.int ae,.lst ((aQ (ag aa ae)).map aW),.int O,.int day]=sO (zR aa ae day (r,O)):=by
 have f:=g r (vL hr);have h:=by
  have:∀k∈aZ,decide (k = "root")=false:=S9
  exact this _ d
 let E:DL.Env:=[sT aa,sI ae,sL ((aQ (ag aa ae)).map aW),sI O,sI day];have i:bJ (fA jg (fV 0 (fV 1 (fV 3 ay)))) E=some _:=bB (a0 _ rr (rh aa (λr hr=>(g r hr).c.rp) N9 ae hr));have j:bJ (f2 Tk (fA bp (ak (f2 dI (aq 0) (aq 3)) ay)) (aq 4)) E=some _:=bB (aJ _ (.int day) (a0 [r] (aM (aJ (.tup aa) (.int O) rr rr (by simp[bi hr])) rr) (rM f h)) rr rr);have a:=bc (aK i) λ_=>j;have e:(!jo aa ae r || decide (day<a8 r)) = !(jo aa ae r && decide (a8 r<=day)):=by
  rw[Bool.not_and];congr 1;rw[<-decide_not];congr 1;rw[Int.not_le]
 rw[e]at a;unfold zR;cases b:(jo aa ae r && decide (a8 r<=day)) with
 |false=>
  rw[b]at a;exact ah rr (aP a (ai rr))
 |true=>
  rw[b]at a;refine ah rr (am a (ai ?_));rw[<-NT _ λn:Nat=>.int n];exact aJ _ (.int 0) (a0 _ (a7 (a0 _ rr (zN g N9 ae M hn hr day)) rr) rr) rr X9
theorem zS (ho:(bV (ag aa ae)).length<=60)(day:Int):mR [.tup aa,.int ae,.int day]=sF (.dk ((lb aa ae day (bV (ag aa ae))).map kN) ((lb aa ae day (bV (ag aa ae))).map λx=>.lst ((nA aa ae (aQ (ag aa ae)) x).map (mi (Lx x.1))))):=by
 have o:eD aa:=⟨N9,λr hr=>(g r hr).c⟩;obtain⟨p,l⟩:=uG (aa:=aa) o ae ho;have q:dA [.tup aa,.int ae]=lT ((bV (ag aa ae)).map λx=>.int x.2):=pb o ae;generalize s:aQ (ag aa ae)=cs at p l |-;have M:∀x∈bV (ag aa ae),x∈ag aa ae:=λx hx=>(vN ((aF _ _).mem_iff.mp hx)).1;have t:((bV (ag aa ae)).map (·.2)).Nodup:=kR (cY aa ae);generalize bV (ag aa ae)=O at ho q M t |-;let k:D×Nat->D:=λx=>.lst ((nA aa ae cs x).map (mi (Lx x.1)));let E:KL->OB->DL.Env:=λL a=>[sT aa,sI ae,sI day,sL (cs.map aW),some (.dk (L.map kN) (L.map k),true),a];obtain⟨ρ',e,a,rfl⟩:=cL (tg:=fz 5) (g:=JB) (λj ρ=>∃a,ρ=E (lb aa ae day (O.take j)) a) (O.map λx=>.int x.2) (E [] none) ⟨none,rr⟩ (by
  rintro j d ρ hd ⟨a,rfl⟩;rw[vA]at hd;obtain⟨x,hx,rfl⟩:=oY hd;have u:=M x (vL hx);have hr:=aB u;have w:aT x.1<=ae:=xG (vN u).2;have z:=g x.1 (vL hr);have A:O.take (j+1)=O.take j++[x]:=by rw[take_add_one,hx];rfl
  have v:lb aa ae day (O.take (j+1))=lb aa ae day (O.take j)++if(decide (kindOf x.1∈aZ) && zR aa ae day x)=true then [x]else []:=by
   simp_all[lb,List.filter_cons]
  have i:x.2∉(lb aa ae day (O.take j)).map (·.2):=by
   have h2:((O.take (j+1)).map (·.2)).Nodup:=List.Nodup.sublist (List.Sublist.map _ (take_sublist _ _)) t;rw[A,uW,nodup_append]at h2;intro hm;obtain⟨y,hy,m⟩:=vO hm;exact h2.2.2 _ (uS ⟨y,(vN hy).1,rr⟩) _ X9 m
  have n:(lb aa ae day (O.take j)).length<=60:=vR (vM _ _) (vR (List.length_take_le' _ _) ho);generalize lb aa ae day (O.take j)=L at v i n;let F:DL.Env:=E L (sI x.2);have B:bJ (fA eO (fV 0 (fV 1 (fV 5 ay)))) F=some (decide (kindOf x.1∈aZ)):=bB (a0 [.tup aa,.int ae,.int x.2] rr ((zQ hr z ae).trans (by simp_all)));have C:=bS B λh=>bB (f:=fA mQ (fV 0 (fV 1 (fV 3 (fV 5 (fV 2 ay)))))) (a0 _ rr (by rw[<-s];exact Sk g hl ae hn (by rw[s];exact l) hr (xG h) day));refine⟨F,E _ (sI x.2),rr,.inl (VI C (λh=>?_) λh=>?_),sI x.2,by rw[v]⟩
  .rw[if_pos h];have G:kindOf x.1∈aZ:=N9
   have H:qJ 4 (aq 5) (fA dC (fV 0 (fV 1 (fV 3 (fV 5 ay))))) F=some (.nx (F.set 4 (some (.dk (dc (L.map kN) (kN x)) (cD (L.map kN) (L.map k) (kN x) (k x)),true)))):=by
    have ev:fA dC (fV 0 (fV 1 (fV 3 (fV 5 ay)))) (kZ F)=some (k x,true):=a0 [.tup aa,.int ae,.lst (cs.map aW),.int x.2] rr (NS g hl ae hn cs l hr G w);show((fA dC _ (kZ F)).bind _)=_;rw[ev];simp only[vJ];exact if_pos (c:=(L.map kN).length<sizeLine) (b7 (by rw[vI];lia))
   rw[H];have hk:kN x∉L.map kN:=λhm=>by
    obtain⟨y,hy,m⟩:=vO hm;exact i (uS ⟨y,hy,by have:=Sum.inl.inj (show(Sum.inl (y.2:Int):dh)=Sum.inl (x.2:Int)from m);lia⟩)
   unfold dc cD;rw[if_neg hk,if_neg hk];simp[F,E]
  .rw[h,if_neg H9,uQ];rfl)
 rw[vI,take_length]at e;exact ah rr (Sj (a0 [.tup aa,.int ae] rr p) (cm (ρ':=E [] none) rr (cm (jd (ds:=O.map λx=>.int x.2) (by show(fA dA _ _).bind _=_;rw[a0 [.tup aa,.int ae] rr q];rfl) e) (E6 (b:=true) rr))))
end
def nK (n:Nat):dh:=.inl (n:Int)
def E7:Nat->D:=λ_=>.bl true
noncomputable def cu (S:LN)(b:Bs):Bool:=b.1.isSome || S.any λn=>decide ((n:Int)=b.2)
noncomputable def cr (S:LN)(p:Nat×List Bs):LN:=if p.2.any (cu S)=true then S++[p.1]else S
noncomputable def f9 (l:List (Nat×List Bs)):LN:=l.foldl cr []
theorem rQ (n:Int):∀S:LN,(br (S.map nK) (S.map E7) (.inl n)).isSome=S.any λm=>decide ((m:Int)=n)
 |[]=>rr
 |m::S=>by
  rw[uY,uY,br,any_cons];by_cases h:(m:Int)=n
  .simp_all[nK]
  .rw[if_neg (show ¬nK m=.inl n from λz=>h (Sum.inl.inj z)),oC h,rQ n S];rfl
def zU (hw:decide (w=("office" : Str))=false)(S:LN)(b:Bs):pC [mi w b,.dk (S.map nK) (S.map E7)]=sO (cu S b):=by
 rcases b with⟨_|o,n⟩
 .refine ah rr (ai (qT (b1:=false) (aJ _ _ rr rr (by simp[of_decide_eq_false hw])) λ_=>aJ _ _ rr rr ?_));show some (D.bl _,false)=_;rw[rQ]
 rfl
def any_map {α:Type}(l:List α)(f:α->Bool):Rk [.lst (l.map λx=>.bl (f x))]=sO (l.any f):=by
 simp
theorem zV (h:m∈cr S p):m∈S\/m=p.1:=by
 grind[cr]
theorem kU:∀(l:List (Nat×List Bs))(S:LN)(m:Nat),m∈l.foldl cr S->m∈S\/m∈l.map (·.1)
 |[],_,_,h=>.inl h
 |p::l,S,m,h=>by
  rcases kU l _ m h with h|h
  .grind[zV]
  .exact .inr (mZ _ h)
abbrev Rs:=Nat×Str×List Bs
noncomputable def rR (p:Rs):D:=.lst (p.2.2.map (mi p.2.1))
def BJ (p:Rs):Nat×List Bs:=(p.1,p.2.2)
def zW (l:List Rs)(hl:l.length<=60)(hw:∀p∈l,decide (p.2.1 = "office")=false)(hb:∀p∈l,p.2.2.length<=100)(hn:(l.map (·.1)).Nodup):pD [.dk (l.map λp=>nK p.1) (l.map rR)]=sF (.dk ((f9 (l.map BJ)).map nK) ((f9 (l.map BJ)).map E7)):=by
 let E:LN->OB->OB->DL.Env:=λS M O=>[sF (.dk (l.map λp=>nK p.1) (l.map rR)),some (.dk (S.map nK) (S.map E7),true),M,O];have GI:lH (l.map λp=>nK p.1) (l.map rR)=l.map λp=>.tup [.int (p.1:Int),rR p]:=by
  unfold lH;rw[zip_map',uP];rfl
 obtain⟨ρ',e,M,O,rfl⟩:=cL (tg:=Ic [2,3]) (g:=JD) (λj ρ=>∃M O,ρ=E (f9 ((l.take j).map BJ)) M O) (l.map λp=>.tup [.int (p.1:Int),rR p]) (E [] none none) ⟨none,none,rr⟩ (by
  rintro j d ρ hd ⟨M,O,rfl⟩;rw[vA]at hd;obtain⟨p,hp,rfl⟩:=oY hd;have c:=vL hp;have i:l.take (j+1)=l.take j++[p]:=by rw[take_add_one,hp];rfl
  have es:f9 ((l.take (j+1)).map BJ)=cr (f9 ((l.take j).map BJ)) (BJ p):=by
   simp_all[f9]
  have f:p.1∉f9 ((l.take j).map BJ):=λhm=>by
   have h2:((l.take (j+1)).map (·.1)).Nodup:=List.Nodup.sublist (List.Sublist.map _ (take_sublist _ _)) hn;rw[i,uW,nodup_append]at h2;rcases kU _ _ _ hm with h|h
   .cases h
   .rw[uP]at h;exact h2.2.2 _ h _ X9 rr
  have k:(f9 ((l.take j).map BJ)).length<=60:=by
   have:∀(q:List (Nat×List Bs))(S:LN),(q.foldl cr S).length<=S.length+q.length:=λq=>by
    induction q with
    |nil=>intro S;exact vT _
    |cons a q m=>
     intro S;refine vR (m _) ?_;unfold cr;split
     .rw[uZ,vE,length_nil,vE];lia
     .rw[vE];lia
   have h3:=this ((l.take j).map BJ) [];rw[vI,length_take,length_nil]at h3;exact vR h3 N9
  generalize f9 ((l.take j).map BJ)=S at es f k;let F:DL.Env:=E S (sI (p.1:Int)) (some (rR p,false));have hc:=ge (fi:=df (aq 3)) (nT:=1) (cap:=[1]) (tg:=fz 0) (fe:=fA pC (fV 0 (fV 1 ay))) (ρ:=F) p.2.2 (mi p.2.1) (λb=>.bl (cu S b)) rr (by have:=hb p c;lia) λb _=>⟨[some (mi p.2.1 b,false),sF (.dk (S.map nK) (S.map E7))],rr,false,a0 [mi p.2.1 b,.dk (S.map nK) (S.map E7)] rr (zU (hw p c) S b)⟩;have n:bJ (fA Rk (ak _ ay)) F=some (p.2.2.any (cu S)):=bB (a0 [.lst (p.2.2.map λb=>.bl (cu S b))] (a7 hc rr) (any_map _ _));refine⟨F,E (cr S (BJ p)) (sI (p.1:Int)) (some (rR p,false)),rr,.inl (VI n (λh=>?_) λh=>?_),_,_,by rw[es]⟩
  .have hk:nK p.1∉S.map nK:=λhm=>by
    obtain⟨y,hy,o⟩:=vO hm;have:=Sum.inl.inj (show(Sum.inl (y:Int):dh)=Sum.inl (p.1:Int)from o);exact f (by rw[show p.1=y by lia];exact hy)
   have r:yO 1 (aq 2) (fC (.bl true)) F=some (.nx (F.set 1 (some (.dk (dc (S.map nK) (nK p.1)) (cD (S.map nK) (S.map E7) (nK p.1) (.bl true)),true)))):=if_pos ⟨rr,b7 (by rw[vI];lia)⟩;rw[r];unfold dc cD cr;rw[if_neg hk,if_neg hk,if_pos (show(BJ p).2.any (cu S)=true from h)];simp[F,E,BJ,E7]
  .unfold cr;rw[if_neg (show ¬(BJ p).2.any (cu S)=true by show ¬p.2.2.any (cu S)=true;rw[h];decide)];rfl)
 rw[vI,take_length]at e;exact ah rr (cm (ρ':=E [] none none) rr (cm (jd (by show some (lH _ _)=_;rw[GI]) e) (E6 (b:=true) rr)))
theorem uJ:∀S:LN,ug (S.map nK)=some (S.map λ(n:Nat)=>(n:Int))
 |[]=>rr
 |n::S=>by
  show(ug _).map _=_;rw[uJ S];rfl
theorem zX {α M:Type}(g:α->M)(f:M->LI)(x:α):∀l:List α,nW f (g x) (l.map g)=(nW (λa=>f (g a)) x l).map g
 |[]=>rr
 |y::r=>by
  rw[uY,nW,nW];split
  .rw[uY,zX g f x r]
  .rfl
theorem uK {α M:Type}(g:α->M)(f:M->LI):∀l:List α,dq f (l.map g)=(dq (λa=>f (g a)) l).map g
 |[]=>rr
 |x::l=>by
  show nW f _ (dq f _)=(nW _ x (dq _ l)).map g;rw[uK g f l,zX]
def Ki (n:Int)(S:LN):GQ (.int n) (S.map λ(m:Nat)=>D.int (m:Int))=S.any λm=>decide ((m:Int)=n):=by
 unfold GQ;induction S with
 |nil=>rfl
 |cons m S M=>
  simp_all
def cw (aa:LD)(ae:Int)(x:D×Nat):List Bs:=nA aa ae (aQ (ag aa ae)) x
def aS (aa:LD)(ae day:Int):LN:=f9 ((lb aa ae day (bV (ag aa ae))).map λx=>(x.2,cw aa ae x))
def kh (S:LN):LD:=(tV (S.map λ(n:Nat)=>(n:Int))).map .int
def BK (r:D):decide (Lx r = "office")=false:=by
 unfold Lx;split
 .decide +kernel
 rfl
def nB (h:kindOf r∈aZ):aG r=false:=by
 have:∀k∈aZ,decide (k = "root")=false:=S9
 exact this _ h
section
variable {aa:LD}(g:∀r∈aa,bv r) (hl:aa.length<=30) (ae:Int) (hn:((bf (ag aa ae)).map (ao 0)).Nodup) (ho:(bV (ag aa ae)).length<=60)
include hl
theorem rS (x:D×Nat):(cw aa ae x).length<=60:=by
 unfold cw nA;split
 .split
  .exact(by decide:1<=60)
  .exact uN _
 .unfold Sg;rw[(aF _ _).length_eq];exact E4 hl _ _ _ _
theorem Gw (day:Int):(aS aa ae day).length<=60:=by
 have:∀(q:List _)(S:List _),(q.foldl cr S).length<=S.length+q.length:=λq=>by
  induction q with
  |nil=>intro S;exact vT _
  |cons a q M=>
   intro S;refine vR (M _) ?_;unfold cr;split
   .rw[uZ,vE,length_nil,vE];lia
   .rw[vE];lia
 have h3:=this ((lb aa ae day (bV (ag aa ae))).map λx=>(x.2,cw aa ae x)) [];have h4:(bV (ag aa ae)).length<=30:=by
  unfold bV;rw[(aF _ _).length_eq];exact vR (vM _ _) (vR (bI _ _) hl)
 have h5:(lb aa ae day _).length<=30:=vR (vM _ _) h4;rw[vI,length_nil]at h3;exact vR h3 N9
include g hn ho
theorem zY (day:Int):lO [.tup aa,.int ae,.int day]=lT (kh (aS aa ae day)):=by
 have M:=zS g hl ae hn ho day;have h4:(lb aa ae day _).length<=60:=vR (vM _ _) ho;have es:=zW ((lb aa ae day _).map λx=>(x.2,Lx x.1,cw aa ae x)) (by rw[vI];exact h4)
  (λp hp=>by obtain⟨x,_,rfl⟩:=vO hp;exact BK _) (λp hp=>by obtain⟨x,_,rfl⟩:=vO hp;exact vR (rS hl ae x) H9)
  (by rw[uP];exact List.Nodup.sublist (List.Sublist.map _ filter_sublist) (kR (cY aa ae)))
 rw[uP,uP,uP]at es;refine ah rr (ai (a0 [_] (a7 (a0 [_] (a7 (a0 _ rr M) rr) es) rr) ?_));show(ug ((aS aa ae day).map nK)).bind _=_;rw[uJ,vJ,if_pos (by grind[Gw])];rfl
end
def xq (n:Nat)(S:LN):(S.any λm=>decide ((m:Int)=(n:Int)))=decide (n∈S):=by
 grind
def zZ (n:Nat)(S:LN):(br (S.map nK) (S.map E7) (.inl (n:Int))).isSome=decide (n∈S):=by rw[rQ,xq]
def Kj (aa:LD)(ae:Int):bf (ag aa ae)=aa.filter λv=>aG v && decide (aT v<=ae):=by
 unfold bf ag;rw[List.filter_filter];have:∀(l:List (D×Nat))(q:D->Bool),(l.filter λx=>q x.1).map _=(l.map _).filter q:=λl q=>by rw[List.filter_map];rfl
 refine(this _ λv=>aG v && decide (aT v<=ae)).trans ?_;rw[List.zipIdx_map_fst]
def Kk (aa:LD)(ae:Int):((bf (ag aa ae)).map (ao 0)).Sublist (nu aa):=by
 rw[Kj];refine List.Sublist.map _ ?_;have:(aa.filter λv=>aG v && decide (aT v<=ae))=(aa.filter aG).filter λv=>decide (aT v<=ae):=by simp_all[Bool.and_comm]
 rw[this];exact filter_sublist
def E8 (S:LN):LN:=dq (λn:Nat=>[(n:Int)]) S
def E9 (S:LN):kh S=(E8 S).map λ(n:Nat)=>.int (n:Int):=by
 simp_all[kh,tV,E8,uK]
def uL {m:Nat}{S:LN}:m∈E8 S↔m∈S:=(aF _ _).mem_iff
def gK (aa:LD)(ae day:Int):List Rs:=(lb aa ae day (bV (ag aa ae))).map λx=>(x.2,Lx x.1,cw aa ae x)
section
variable {aa:LD}(g:∀r∈aa,bv r) (hl:aa.length<=30) (ae:Int) (hn:((bf (ag aa ae)).map (ao 0)).Nodup) (ho:(bV (ag aa ae)).length<=60)
theorem o8 (day:Int):((gK aa ae day).map (·.1)).Nodup:=by
 unfold gK;rw[uP];exact List.Nodup.sublist (List.Sublist.map _ filter_sublist) (kR (cY _ _))
theorem Pp (day:Int):∀p∈gK aa ae day,decide (p.2.1 = "office")=false:=λp hp=>by obtain⟨x,_,rfl⟩:=vO hp;exact BK _
include ho in
theorem NU (day:Int):(gK aa ae day).length<=60:=by unfold gK;rw[vI];exact vR (vM _ _) ho
include hl in
theorem Pq (day:Int):∀p∈gK aa ae day,p.2.2.length<=100:=λp hp=>by obtain⟨x,_,rfl⟩:=vO hp;exact vR (rS hl ae x) H9
include g hl hn ho
end
def Sl (z:Int)(S:LN):Fw (.int z) (.lst (kh S))=sO (S.any λm=>decide ((m:Int)=z)):=by
 have M:((E8 S).map λ(n:Nat)=>D.int (n:Int)).all gO=true:=by
  simp
 rw[E9];simp only[Fw,fj,vJ];rw[if_pos ⟨rr,M⟩,Ki];refine congrArg (λb=>sF _) ?_;rw[Bool.eq_iff_iff,any_eq_true,any_eq_true];exact⟨λ⟨m,h,e⟩=>⟨m,uL.mp h,e⟩,λ⟨m,h,e⟩=>⟨m,uL.mpr h,e⟩⟩
def nI (aa:LD)(ae:Int)(n:Nat):List Bs:=match aa[n]? with
 |some r=>cw aa ae (r,n)
 |none=>[]
inductive Lk (S:List Nat)(rs:Nat->List Bs):List Nat->Int->Prop
 |one (n:Nat) (b:Bs) (l:List Bs) (hS:n∈S) (h:(rs n).filter (cu S)=b::l) (ho:b.1.isSome=true):Lk S rs [n] b.2
 |more (n m:Nat) (ns:List Nat) (c:Int) (b:Bs) (l:List Bs) (hS:n∈S) (h:(rs n).filter (cu S)=b::l) (ho:b.1=none) (hm:b.2=(m:Int)) (k:Lk S rs (m::ns) c):Lk S rs (n::m::ns) c
def Aa (K:KL){x y:D×Nat}(hy:y∈K)(h:bF y x=true):(K.filter λz=>bF z y).length<(K.filter λz=>bF z x).length:=by
 have M:∀z∈K,bF z y=true->bF z x=true:=λz _ hz=>by
  unfold bF at *;lia
 have e:K.filter (λz=>bF z y)=(K.filter λz=>bF z x).filter λz=>bF z y:=by
  rw[List.filter_filter];refine List.filter_congr λz hz=>?_;cases k:bF z y with
  |false=>rfl
  |true=>rw[M z hz k];rfl
 rw[e];refine Nat.lt_of_le_of_ne (vM _ _) λz=>?_;have hm:y∈(K.filter λz=>bF z x):=mem_filter.mpr ⟨hy,h⟩;have:=List.length_filter_eq_length_iff.mp z y hm;simp_all[bF]
section
variable {aa:LD}{ae:Int}
def xr {day:Int}{n:Nat}(h:n∈aS aa ae day):∃r,aa[n]? = some r/\(r,n)∈ag aa ae/\kindOf r∈aZ/\(n,Lx r,cw aa ae (r,n))∈gK aa ae day:=by
 rcases kU _ _ _ h with z|z
 .cases z
 .obtain⟨p,hp,rfl⟩:=vO z;obtain⟨x,hx,rfl⟩:=vO hp;obtain⟨h1,h2⟩:=vN hx;rw[vC]at h2;have hk:=(vN ((aF _ _).mem_iff.mp h1)).1;exact⟨x.1,aB hk,hk,xG h2.1,uS ⟨x,hx,rr⟩⟩
theorem Kl {S T:LN}(h:∀m∈S,m∈T)(b:Bs)(k:cu S b=true):cu T b=true:=by
 unfold cu at k |-;rw[Bool.or_eq_true]at k |-;grind
def NV (h:m∈S):m∈cr S p:=by
 grind[cr]
theorem pF:∀(q:List (Nat×List Bs))(S:LN),m∈S->m∈q.foldl cr S
 |[],_,h=>h
 |_::q,_,h=>pF q _ (NV h)
theorem rT:∀(l:List (Nat×List Bs))(S:LN)(n:Nat),n∈l.foldl cr S->n∈S\/∃p∈l,p.1=n/\p.2.any (cu (l.foldl cr S))=true
 |[],S,n,h=>.inl h
 |p::l,S,n,h=>by
  rcases rT l _ n h with z|⟨M,hp,e,k⟩
  .by_cases hs:n∈S
   .exact .inl hs
   grind[cr,Kl,pF]
  .exact .inr ⟨M,mZ _ hp,e,k⟩
def lZ {r:D}{n:Nat}(g:∀r∈aa,bv r)(hr:aa[n]? = some r){b:Bs}(hb:b∈cw aa ae (r,n))(e:b.1=none):∃(m:Nat)(q:D),b.2=(m:Int)/\aa[m]? = some q/\(q,m)∈ag aa ae/\bF (q,m) (r,n)=true:=by
 unfold cw nA at hb;split at hb
 .rename_i M;obtain⟨a,d,O,m,er⟩:=lY (g _ (vL hr)) M;have en:dE 2 r=m:=by rw[er];rfl
  simp only[en]at hb;split at hb
  .rename_i hv;rw[mem_singleton]at hb;subst hb;unfold nw at hv;split at hv
   .cases hv
   .rename_i q hq;rw[vC,vC]at hv;refine⟨m,q,rr,hq,mem_filter.mpr ⟨List.mk_mem_zipIdx_iff_getElem?.mpr hq,hv.1.1⟩,hv.2⟩
  simp_all
 .have hb:=(aF _ _).mem_iff.mp hb;rcases mem_append.mp hb with z|z
  .obtain⟨v,_,rfl⟩:=vO z;cases e
  .obtain⟨y,hy,rfl⟩:=vO z;obtain⟨h1,h2⟩:=vN hy;unfold xp at h2;rw[vC]at h2;exact⟨y.2,y.1,rr,(zJ g h1).1,(vN (vN h1).1).1,h2.1⟩
def Km {day:Int}{n:Nat}{r:D}(hr:aa[n]? = some r)(hn:n∈aS aa ae day):∃b l,(cw aa ae (r,n)).filter (cu (aS aa ae day))=b::l:=by
 rcases rT _ _ _ hn with z|⟨p,hp,e,hb⟩
 .cases z
 .obtain⟨x,hx,rfl⟩:=vO hp;have hx':=aB (vN ((aF _ _).mem_iff.mp (vN hx).1)).1;have M:x.2=n:=e;rw[M,hr]at hx';have ex:x=(r,n):=by rw[<-M,vK hx']
  subst ex;obtain⟨b,h1,h2⟩:=any_eq_true.mp hb;have hm:b∈(cw _ _ _).filter (cu (aS _ _ _)):=mem_filter.mpr ⟨h1,h2⟩;cases hq:(cw _ _ _).filter _ with
  |nil=>rw[hq]at hm;cases hm
  |cons b l=>exact⟨b,l,rr⟩
def Kn (g:∀r∈aa,bv r)(day:Int):∀(k n:Nat)(r:D),aa[n]? = some r->n∈aS aa ae day->((ag aa ae).filter λz=>bF z (r,n)).length<k->∃ns c,Lk (aS aa ae day) (nI aa ae) (n::ns) c/\ns.length<k:=by
 intro k;induction k with
 |zero=>lia
 |succ k d=>
  intro n r hr hn hk;obtain⟨b,l,hq⟩:=Km hr hn;have er:nI aa ae n=cw aa ae (r,n):=by unfold nI;rw[hr]
  have hm:b∈(cw aa ae (r,n)).filter (cu (aS aa ae day)):=by rw[hq];exact mX
  obtain⟨h1,h2⟩:=vN hm;cases M:b.1 with
  |some o=>exact⟨[],b.2,.one n b l hn (by rw[er];exact hq) (by rw[M];rfl),Nat.succ_pos _⟩
  |none=>
   obtain⟨m,q,e1,e2,h3,h4⟩:=lZ g hr h1 M;have O:m∈aS aa ae day:=by
    unfold cu at h2;rw[M]at h2;obtain⟨e,a,f⟩:=any_eq_true.mp (by simpa using h2:(aS aa ae day).any (λn=>decide _)=true);have:=xG f;rw[show m=e by lia];exact a
   have:=Aa _ h3 h4;obtain⟨ns,c,hl,h⟩:=d m q e2 O N9;exact⟨m::ns,c,.more n m ns c b l hn (by rw[er];exact hq) M e1 hl,by rw[vE];lia⟩
end
def xu (w:Str)(b:Bs):dI (mi w b) (.int 0)=sS (if b.1.isSome=true then "office" else w):=by rcases b with⟨_|o,n⟩<;>simp[mi,sv]
def Ko (hw:decide (w=("office" : Str))=false)(R:List Bs)(hR:R.length<=100)(S:LN){b:Bs}{l:List Bs}(h:R.filter (cu S)=b::l):dU [.lst (R.map (mi w)),.dk (S.map nK) (S.map E7)]=sF (mi w b):=by
 have hc:=de (fi:=df (aq 0)) (nT:=1) (cap:=[1]) (tg:=fz 0) (c:=bJ (fA _ (fV 0 (fV 1 ay)))) (fe:=aq 0) (ρ:=[sL _,sF _]) R (mi w) _ _ rr N9 λb _=>⟨[some _,sF _],rr,bB (a0 _ rr (zU hw S b)),λ_=>⟨false,rr⟩⟩;rw[h]at hc;exact ah rr (ai (f8 hc rr (by simp[sv])))
theorem rV:∀(l:List Rs),(l.map (·.1)).Nodup->∀p∈l,br (l.map λp=>nK p.1) (l.map rR) (nK p.1)=some (rR p)
 |q::l,h,p,hp=>by
  rw[uY,nodup_cons]at h;show(if nK _=nK _ then some _ else br _ _ _)=_;rcases vP hp with rfl|hp
  .rw[if_pos rr]
  .rw[if_neg λe=>?_,rV l h.2 p hp];have z:q.1=p.1:=by
    have:=Sum.inl.inj (show(Sum.inl _:dh)=Sum.inl _ from e);lia
   exact h.1 (uS ⟨p,hp,z.symm⟩)
def Lk.first {S:LN}{rs:Nat->List Bs}(h:Lk S rs (n::ns) c):n∈S/\∃b l,(rs n).filter (cu S)=b::l:=by
 cases h with
 |one _ b l hS h _=>exact⟨hS,b,l,h⟩
 |more _ _ _ _ b l hS h _ _ _=>exact⟨hS,b,l,h⟩
section
variable {aa:LD}{ae day:Int}{l:List Rs}{S:LN}{rs:Nat->List Bs}(n0:Nat)
abbrev cE (aa:LD)(ae day:Int)(l:List Rs)(S:LN)(n0:Nat)(told:LD)(b:D):DL.Env:=[sT aa,sI ae,sI day,sI n0,sF (.dk (l.map λp=>nK p.1) (l.map rR)),sF (.dk (S.map nK) (S.map E7)),lT told,some (b,false)]
def Z9 (l:List Rs)(S:LN)(rs:Nat->List Bs):Prop:=∀n∈S,∃w,decide (w=("office" : Str))=false/\br (l.map λp=>nK p.1) (l.map rR) (nK n)=some (.lst ((rs n).map (mi w)))/\(rs n).length<=100
theorem EA (F:Z9 l S rs){m:Nat}(hm:m∈S){b:Bs}{tl:List Bs}(h:(rs m).filter (cu S)=b::tl){ρ:DL.Env}{f:FE}(h4:ρ[4]? = some (sF (.dk (l.map λp=>nK p.1) (l.map rR))))(h5:ρ[5]? = some (sF (.dk (S.map nK) (S.map E7))))(hf:f ρ=sI (m:Int)):
  ∃w,decide (w=("office" : Str))=false/\fA dU (ak (f2 Tt (aq 4) f) (fV 5 ay)) ρ=sF (mi w b):=by
 obtain⟨w,hw,hl,hz⟩:=F m hm;refine⟨w,hw,a0 _ (a7 (b:=false) (aJ (.dk (l.map λp=>nK p.1) (l.map rR)) _ (by simp[h4]) hf ?_) (by simp[h5])) (Ko hw _ hz S h)⟩;simp_all[nK]
theorem Gx (F:Z9 l S rs){T:LN}{c:Int}(k:Lk S rs T c):∀(n:Nat)(ns:LN),T=n::ns->∀(pre:LD)(w:Str)(b:Bs)(tl:List Bs)(fuel:Nat),pre.length+ns.length<=1000->decide (w=("office" : Str))=false->(rs n).filter (cu S)=b::tl->ns.length<fuel ->
  ∃O b',fT (bJ (f2 GP (ft 7 0) (fS "office"))) zk fuel (cE aa ae day l S n0 (pre++[.int n]) (mi w b))=some (.nx (cE aa ae day l S n0 (pre++(n::ns).map λ(m:Nat)=>.int (m:Int)) (mi O b')))/\b'.1.isSome=true/\b'.2=c:=by
 have cond:∀(told:LD)(w:Str)(b:Bs),decide (w=("office" : Str))=false->bJ (f2 GP (ft 7 0) (fS "office")) (cE aa ae day l S n0 told _)=some (!b.1.isSome):=λtold w b hw=>by
  refine(BH (aJ _ _ rr rr (xu w b))).trans ?_;lia
 induction k with
 |one n M e hS h ho=>
  rintro f ns ⟨⟩ pre w b tl fuel hp hw hb hf;rw[h]at hb;obtain⟨rfl,rfl⟩:=List.cons.inj hb;obtain⟨fuel,rfl⟩:∃k,fuel=k+1:=⟨fuel - 1,N9⟩;refine⟨w,M,?_,ho,rr⟩;rw[fT,cond _ _ _ hw,ho];rfl
 |more n m g c M e hS h ho hm k i=>
  rintro f ns ⟨⟩ pre w b tl fuel hp hw hb hf;rw[h]at hb;obtain⟨rfl,rfl⟩:=List.cons.inj hb;obtain⟨fuel,rfl⟩:∃k,fuel=k+1:=⟨fuel - 1,N9⟩;obtain⟨a,b2,l2,h2⟩:=k.first;rw[vE]at hp hf;have e1:∀told,ft 7 1 (cE aa ae day l S n0 told (mi w M))=sF _:=λtold=>aJ _ (.int 1) rr rr (by
   obtain⟨o,z⟩:=M;cases (show o=none from ho)
   cases (show z=(m:Int)from hm)
   rfl)
  obtain⟨j,d,e2⟩:=EA F a h2 rr rr (e1 _);obtain⟨O,b',p,q,r⟩:=i m g rr (pre++[.int n]) j b2 l2 fuel (by rw[uZ,length_singleton];lia) d h2 N9;refine⟨O,b',?_,q,r⟩;have s:zk _=some (.nx (cE aa ae day l S n0 (pre++[.int n]++[.int _]) _)):=Pj rr (e1 _) rr (b7 (by rw[uZ,length_singleton];lia)) (yX e2 (zO _ _));rw[fT,cond _ _ _ hw,ho];rw[s];dsimp only;rw[p];simp
end
section
variable {aa:LD}(g:∀r∈aa,bv r) (hl:aa.length<=30) (ae:Int) (hn:((bf (ag aa ae)).map (ao 0)).Nodup) (ho:(bV (ag aa ae)).length<=60)
include hl in
theorem NW (day:Int):Z9 (gK aa ae day) (aS aa ae day) (nI aa ae):=λn hm=>by
 obtain⟨r,hr,_,_,hp⟩:=xr hm;have e:nI aa ae n=cw aa ae (r,n):=by unfold nI;rw[hr]
 rw[e];exact⟨Lx r,BK r,rV _ (o8 ae day) _ hp,vR (rS hl ae (r,n)) H9⟩
include g hl hn ho
theorem o9 (day:Int)(n:Nat):mR [.tup aa,.int ae,.int day]=sF (.dk ((gK aa ae day).map λp=>nK p.1) ((gK aa ae day).map rR))/\pD [.dk ((gK aa ae day).map λp=>nK p.1) ((gK aa ae day).map rR)]=sF (.dk ((aS aa ae day).map nK) ((aS aa ae day).map E7)):=by
 constructor
 .rw[zS g hl _ hn ho _];unfold gK;rw[uP,uP];rfl
 .rw[zW _ (NU _ ho _) (Pp _ _) (Pq hl _ _) (o8 _ _)];have:f9 ((gK aa ae day).map BJ)=aS aa ae day:=by
   unfold gK aS;rw[uP];rfl
  rw[this]
theorem Kp (day:Int){n:Nat}(h:n∉aS aa ae day):mS [.tup aa,.int ae,.int day,.int (n:Int)]=sF .non:=by
 obtain⟨e1,e2⟩:=o9 g hl _ hn ho _ n;refine ah rr (J9 (a0 _ rr e1) (by simp ) (.inl rr) (J9 (a0 _ rr e2) (by simp ) (.inl rr) (aP (bB (aJ _ _ rr rr ?_)) (ai rr))));show some (D.bl _,false)=_;rw[zZ,oC h];rfl
theorem Gy (day:Int){n:Nat}{ns:LN}{c:Int}(k:Lk (aS aa ae day) (nI aa ae) (n::ns) c)(s:ns.length<=100):mS [.tup aa,.int ae,.int day,.int (n:Int)]=lT (((n::ns).map (λ(m:Nat)=>D.int (m:Int))++[D.int c]).reverse):=by
 obtain⟨e1,e2⟩:=o9 g hl ae hn ho day n;obtain⟨hS,b,tl,hf⟩:=k.first;have F:=NW (aa:=aa) hl ae day;generalize gK aa ae day=l at *;generalize aS aa ae day=S at *;obtain⟨w,hw,e⟩:=EA F hS hf (ρ:=[sT aa,sI ae,sI day,sI (n:Int),sF _,sF _,lT [.int (n:Int)],none]) (f:=aq 3) rr rr rr;obtain⟨a,b',h,M,hc⟩:=Gx (aa:=aa) (ae:=ae) (day:=day) n F k n ns rr [] w b tl 1000 I9 hw hf N9;have O:ft 7 2 (cE aa ae day l S n ([]++(n::ns).map λ(m:Nat)=>D.int (m:Int)) (mi a b'))=sI c:=aJ (mi a b') (.int 2) rr rr (by
  obtain⟨_|o,z⟩:=b'
  .cases M
  .cases (show z=c from hc)
   rfl)
 have i:f2 Bn (aq 3) (aq 5) [sT aa,sI ae,sI day,sI (n:Int),sF (.dk (l.map λp=>nK p.1) (l.map rR)),sF (.dk (S.map nK) (S.map E7)),none,none]=sO false:=by
  show some (D.bl _,false)=_;rw[zZ,mf hS];rfl
 have j:(bN _ (bN (xW 6 (ft 7 2)) (Fm (f1 VA (aq 6))))) _=some _:=
  cm h (Pj (d:=.int c) (b:=false) rr O rr (b7 I9) (ai rr))
 have q:(bN (dN 6 (fA fD (fV 3 ay))) (bN (dN 7 _) _)) [sT aa,sI ae,sI day,sI (n:Int),sF _,sF _,none,none]=some _:=
  bx (a0 [.int (n:Int)] rr (cO _ X9)) rr (wP e (zO _ _) j)
 refine ah rr (J9 (b:=false) (a0 _ rr e1) (by simp[aR]) (.inl rr) ?_);refine(show bN _ _ _=_ from J9 (b:=false) (a0 [_] rr e2) (by simp[aR]) (.inl rr) ?_);exact am (bB (x:=false) i) q
end
def Kq (a:D)(l:LD):iD (a::l) (some 1) none=l:=by
 unfold iD;rw[yZ H9];show List.take ((a::l).length - _) _=_;simp
def VP (a:D)(l:LD):iD (a::l) (some 2) none=l.drop 1:=by
 unfold iD;rw[yZ H9];show List.take ((a::l).length - _) _=_;cases l with
 |nil=>rfl
 |cons b l=>simp
def EB (z:Int)(zs:LI):Fw (.int z) (.lst (zs.map .int))=sO (zs.any λy=>decide (y=z)):=by
 have M:(zs.map D.int).all gO=true:=by
  rw[all_eq_true];intro d hd;obtain⟨m,_,rfl⟩:=vO hd;rfl
 have O:∀zs:List _,GQ _ (zs.map .int)=zs.any λy=>decide (y=z):=λzs=>by
  induction zs with
  |nil=>rfl
  |cons y zs a=>
   show(cZ _ (.int z) || GQ _ _)=_;rw[a,any_cons,xx2]
 simp only[Fw,fj,vJ];rw[if_pos ⟨rr,M⟩,O]
def VQ {α:Type}(l:List α)(f:α->Bool):M6 [.lst (l.map λx=>.bl (f x))]=sO (l.all f):=by
 show(sE _).map _=_;rw[yY f,Option.map_some,all_map];rfl
def Sm (w:Str)(hw:decide (w=("office" : Str))=false)(R:List Bs)(hR:R.length<=100)(a:Int):jk [.lst (R.map (mi w)),.int a]=sO (R.any λb=>b.1.isSome && decide (b.2=a)):=by
 have hc:=de (fi:=df (aq 0)) (nT:=1) (cap:=[]) (tg:=fz 0) (c:=bJ (f2 ko (ft 0 0) (fS "office"))) (fe:=ft 0 2) (ρ:=[sL _,sI a]) R (mi w) (λb=>b.1.isSome) (λb=>.int b.2) rr (by omega) λx _=>by
  refine⟨[some _],rr,?_,λh=>⟨false,?_⟩⟩
  .refine(bH (aJ _ _ rr rr (xu _ x)) rr).trans ?_;cases x.1.isSome with
   |true=>simp
   |false=>rw[if_neg H9,hw]
  .obtain⟨_|o,z⟩:=x
   .cases h
   .exact aJ _ _ rr rr ((DL.pQ H9 X9).trans rr)
 refine ah rr (ai (f8 rr hc ?_));have:=EB a ((R.filter λb=>b.1.isSome).map λb=>b.2);rw[uP,List.any_map,List.any_filter]at this;exact this
def NX (w:Str)(hw:decide (w=("office" : Str))=false)(R:List Bs)(hR:R.length<=100)(a:Int):gX [.lst (R.map (mi w)),.int a]=sO (R.any λb=>!b.1.isSome && decide (b.2=a)):=by
 have hc:=de (fi:=df (aq 0)) (nT:=1) (cap:=[]) (tg:=fz 0) (c:=bJ (f2 _ (ft 0 0) (fS "office"))) (fe:=ft 0 1) (ρ:=[sL _,sI a]) R (mi w) (λb=>!b.1.isSome) (λb=>.int b.2) rr (by omega) λx _=>by
  refine⟨[some _],rr,?_,λh=>⟨false,?_⟩⟩
  .refine(BH (aJ _ _ rr rr (xu _ x))).trans ?_;cases x.1.isSome with
   |true=>simp
   |false=>rw[if_neg H9,hw]
  .obtain⟨_|o,z⟩:=x
   .exact aJ _ _ rr rr (by simp[mi,sV])
   .cases h
 refine ah rr (ai (f8 rr hc ?_));have:=EB a ((R.filter λb=>!b.1.isSome).map λb=>b.2);rw[uP,List.any_map,List.any_filter]at this;exact this
noncomputable def nD (l:List Rs)(z:Int):Bool:=l.any λp=>decide ((p.1:Int)=z)
theorem Ab (z:Int):∀l:List Rs,(br (l.map λp=>nK p.1) (l.map rR) (.inl z)).isSome=nD l z
 |[]=>rr
 |p::l=>by
  unfold nD;rw[uY,uY,br,any_cons];by_cases h:nK p.1=.inl z
  .rw[if_pos h,mf (Sum.inl.inj h)];rfl
  .rw[if_neg h,oC λe=>h (congrArg _ e)];exact Ab z l
def NY {l:List Rs}(nd:(l.map (·.1)).Nodup){z:Int}(h:nD l z=true):∃p∈l,(p.1:Int)=z/\br (l.map λp=>nK p.1) (l.map rR) (.inl z)=some (rR p):=by
 obtain⟨p,hp,e⟩:=any_eq_true.mp h;have e:=xG e;refine⟨p,hp,e,?_⟩;rw[<-e];exact rV l nd p hp
noncomputable def Pr (rs:Nat->List Bs)(a b:Int):Bool:=(rs b.toNat).any λx=>x.1.isSome && decide (x.2=a)
noncomputable def Ps (rs:Nat->List Bs)(a b:Int):Bool:=(rs b.toNat).any λx=>!x.1.isSome && decide (x.2=a)
def Pt (l:List Rs)(rs:Nat->List Bs):LI->Bool
 |a::b::r=>(b::r).all (nD l) && (Pr rs a b && ((b::r).zip r).all λp=>Ps rs p.1 p.2)
 |_=>false
structure OP (l:List Rs)(rs:Nat->List Bs):Prop where
 nd:(l.map (·.1)).Nodup
 hw:∀p∈l,decide (p.2.1=("office" : Str))=false
 hb:∀p∈l,p.2.2.length<=100
 hr:∀p∈l,p.2.2=rs p.1
def OP.get (I:OP l rs){z:Int}(h:nD l z=true):∃w,decide (w=("office" : Str))=false/\(rs z.toNat).length<=100/\Tt (.dk (l.map λp=>nK p.1) (l.map rR)) (.int z)=sL ((rs z.toNat).map (mi w)):=by
 obtain⟨p,hp,e,hl⟩:=NY I.nd h;have M:z.toNat=p.1:=by omega
 refine⟨p.2.1,I.hw p hp,by rw[M,<-I.hr p hp];exact I.hb p hp,?_⟩;show(br (l.map λp=>nK _) _ _).map _=_;rw[hl,M,<-I.hr p hp];rfl
def Gz {aa:LD}{ae day:Int}{l:List Rs}{rs:Nat->List Bs}(F:mR [.tup aa,.int ae,.int day]=sF (.dk (l.map λp=>nK p.1) (l.map rR)))(I:OP l rs)(zs:LI)(hz:zs.length<=1000):jl [.tup aa,.int ae,.int day,.lst (zs.map .int)]=sO (Pt l rs zs):=by
 let A:D:=.dk (l.map λp=>nK p.1) (l.map rR);let E:DL.Env:=[sT aa,sI ae,sI day,sL (zs.map .int),sF A];have e:bJ (f2 Tl (fA hV (fV 3 ay)) (fI 2)) E=some (decide (zs.length<2)):=bB (aJ (.int (zs.length:Nat)) (.int 2) (a0 [.lst (zs.map .int)] rr X9) rr (by
  show some (D.bl (decide ((zs.length:Int)<2)),false)=_;congr 3;exact decide_eq_decide.mpr (by omega)))
 refine ah rr (J9 (d:=A) (b:=false) (a0 [.tup aa,.int ae,.int day] rr F) rr (.inl rr) ?_);show bN _ _ E=_;rcases zs with _|⟨a,_|⟨b,r⟩⟩
 .exact aP (bc (p:=true) (q:=true) e X9) (ai rr)
 .exact aP (bc (p:=true) (q:=true) e X9) (ai rr)
 .have c2:=ge (fi:=df (Lq (aq 3) (m6 (fI 1)) oG)) (nT:=1) (cap:=[4]) (tg:=fz 0) (fe:=f2 Zz (aq 0) (aq 1)) (ρ:=E) (b::r) .int (λz=>.bl (nD l z)) (by
    show some (iD (.int a::(b::r).map .int) (some 1) none)=_;rw[Kq]) (by simp at hz |-;omega) λz _=>⟨[sI z,sF A],rr,false,aJ (.int z) A rr rr (by
     show some (D.bl (br (l.map λp=>nK p.1) (l.map rR) (.inl z)).isSome,false)=_;rw[Ab])⟩
  have f:bJ (fA M6 (ak _ ay)) E=some ((b::r).all (nD l)):=bB (a0 [.lst ((b::r).map λz=>.bl (nD l z))] (a7 c2 rr) (VQ _ _));show bN _ _ E=some (.rt (.bl ((b::r).all (nD l) && (Pr rs a b && ((b::r).zip r).all λp=>Ps rs p.1 p.2))) false);cases M:(b::r).all (nD l) with
  |false=>
   rw[M]at f;exact aP (bc (p:=false) (q:=true) e λ_=>aK f) (ai rr)
  |true=>
   rw[M]at f;rw[Bool.true_and];have hf:∀z∈b::r,nD l z=true:=uR M;obtain⟨w,hw,O,hk⟩:=I.get (hf b mX);have g:bJ (fA jk (ak (f2 Tt (aq 4) (ft 3 1)) (ak (ft 3 0) ay))) E=some (Pr rs a b):=bB (a0 [.lst ((rs b.toNat).map (mi w)),.int a] (aM (aJ A (.int b) rr (aJ (.lst (.int a::.int b::r.map .int)) (.int 1) rr rr (by simp[sV])) hk) (aM (aJ (.lst (.int a::.int b::r.map .int)) (.int 0) rr rr (by simp[sv])) rr)) (Sm w hw _ O a));refine am (bc (p:=false) (q:=false) e λ_=>aK f) ?_;cases c:Pr rs a b with
   |false=>
    rw[c]at g;exact aP (aK g) (ai rr)
   |true=>
    rw[c]at g;rw[Bool.true_and];have h:=ge (fi:=F3 (Lq (aq 3) (m6 (fI 1)) oG) (Lq (aq 3) (m6 (fI 2)) oG)) (nT:=2) (cap:=[4]) (tg:=Ic [0,1]) (fe:=fA gX (ak (f2 Tt (aq 2) (aq 1)) (fV 0 ay))) (ρ:=E) ((b::r).zip r) (λp=>.tup [.int p.1,.int p.2]) (λp=>.bl (Ps rs p.1 p.2)) (by
      show some (gL (iD (.int a::(b::r).map .int) (some 1) none) (iD (.int a::(b::r).map .int) (some 2) none))=_;rw[Kq,VP];unfold gL;show some (List.zipWith _ ((b::r).map D.int) (r.map D.int))=_;rw[List.zipWith_map,List.zip_eq_zipWith,List.map_zipWith]) (by rw[length_zip];simp at hz |-;omega) λp hp=>by
     obtain⟨w,hw,O,hk⟩:=I.get (hf p.2 (mZ _ (of_mem_zip hp).2));exact⟨[sI p.1,sI p.2,sF A],rr,false,a0 [.lst ((rs p.2.toNat).map (mi w)),.int p.1] (aM (aJ A (.int p.2) rr rr hk) (aM rr rr)) (NX w hw _ O p.1)⟩
    exact am (aK g) (ai (a0 [.lst (((b::r).zip r).map λp=>.bl (Ps rs p.1 p.2))] (a7 h rr) (VQ _ _)))
end Lw
namespace Lw
open PySem DL L2
def VR (d:D)(r:LD):iD (d::r) (some 1) none=r:=by
 simp_all[iD,HT.cQ]
def Ac (aa:LD)(n:Nat):iD aa none (some (n:Int))=aa.take n:=by
 simp_all[iD,HT.Hk,HT.LM]
def EC {op:D->OB}{fa:FE}{ρ:DL.Env}{x:D}{b:Bool}{z:OB}(e1:fa ρ=some (x,b))(e2:op x=z):f1 op fa ρ=z:=by unfold f1;rw[e1];exact e2
def Ad (parts:LS)(aj:LD):gL (parts.map .str) aj=(parts.zip aj).map λx=>.tup [.str x.1,x.2]:=by
 induction parts generalizing aj with
 |nil=>rfl
 |cons a l M=>
  cases aj with
  |nil=>rfl
  |cons d r=>simp_all[gL]
def nE {α:Type}(l:List α):M6 [.lst (l.map λ_=>.bl true)]=some (.bl true,false):=by
 simp
noncomputable def rW (c:Nat):Bool:=decide (97<=c) && decide (c<=122)
def Ae (c:Nat)(ρ:DL.Env)(h:ρ[0]? = some (some (.str ⟨#[c]⟩,false))):j8 ON ON (fC (.str "a")) (aq 0) (fC (.str "z")) ρ=some (.bl (rW c),false):=by
 refine iK (b1:=false) (b2:=false) (b3:=false) ?_ ?_ ?_ (CY _ _) λ_=>CY _ _
 .rfl
 .simp[h]
 rfl
noncomputable def oA (z:Str):Bool:=(decide (1<=z.length) && decide (z.length<=8)) && z.cps.toList.all rW
def Af (z:Str):z.cps.toList.length=z.length:=by simp[Str.length]
def ki {z:Str}(h:oA z=true):kJ [.str z]=some (.bl true,false):=by
 unfold oA at h;rw[vC,vC]at h;obtain⟨⟨h1,M⟩,ha⟩:=h;have hl:z.length<=sizeLine:=cM N9;refine ah rr (am (bc (p:=false) (q:=false) X9 λ_=>aK (p:=true) (ca ((iK (y:=.int z.length) (z:=.int 8) (b2:=false) (b4:=false) (p:=true) (q:=true) rr (by simp[hl]) rr I9 λ_=>by simp;lia).trans rr))) (ai (aI (ds:=[.lst (z.cps.toList.map λc=>.bl (rW c))]) ?_ ?_)))
 .have:=ge (fi:=df (aq 0)) (nT:=1) (cap:=[]) (tg:=fz 0) (ρ:=[some (.str z,false)]) z.cps.toList (λc=>.str ⟨#[c]⟩) _ (by simp[Gg]) (by rw[Af];lia) λc _=>
   ⟨_,rr,false,Ae c _ (by simp[cj])⟩
  exact a7 (b:=true) this rr
 simp_all
def uM {d lo hi:Int}(h1:lo<=d)(h2:d<=hi):lI [.int d,.int lo,.int hi]=some (.bl true,false):=by
 refine ah rr (ai ((bP (p:=true) (b1:=false) X9 λ_=>(bP (No (p:=false) (b1:=false) X9) λ_=>(iK (b4:=false) (p:=true) rr rr rr I9 λ_=>by simp;lia).trans rr).trans rr).trans rr))
def NZ {d:Int}(h1:0<=d)(h2:d<=9999):qV [.int d]=some (.bl true,false):=ah rr (ai (aI rr (uM h1 h2)))
def uO {z:Str}(h:oA z=true):lJ [.str z]=some (.bl true,false):=ah rr (ai (aI rr (ki h)))
def BL {ps:LS}(h1:1<=ps.length)(M:ps.length<=8)(h:∀p∈ps,oA p=true):gR [.tup (ps.map .str)]=some (.bl true,false):=by
 refine ah rr (am (bc (p:=false) X9 λ_=>aK (ca ((iK (y:=.int ps.length) (z:=.int 8) (b2:=false) (b4:=false) (p:=true) (q:=true) rr X9 rr I9 λ_=>by simp;lia).trans rr))) (ai (aI ?_ (nE ps))));have:=ge (fi:=df (aq 0)) (nT:=1) (cap:=[]) (tg:=fz 0) (fe:=fA _ (ak (aq 0) ay)) (ρ:=[some (.tup (ps.map .str),false)]) ps (λp=>.str p) _ X9 N9 λp hp=>
  ⟨_,rr,false,aI (by simp[cj]) (uO (h p hp))⟩
 exact a7 this rr
def cq {p q:Str}{v:D}{b:Bool}(h:decide (p=q)=b):bJ (f2 ko (aq 0) (fC (.str q))) [some (.str p,false),some (v,false)]=some b:=by simp_all
def c2 {p q r:Str}{v:D}(h:(decide (p=q) || decide (p=r))=false):jw (bJ (f2 ko (aq 0) (fC (.str q)))) (bJ (f2 ko (aq 0) (fC (.str r)))) [some (.str p,false),some (v,false)]=some false:=(bc (cq rr) λ_=>cq rr).trans (by rw[h])
def c3 {p q r t:Str}{v:D}(h:(decide (p=q) || (decide (p=r) || decide (p=t)))=false):jw (bJ (f2 ko (aq 0) (fC (.str q)))) (jw (bJ (f2 ko (aq 0) (fC (.str r)))) (bJ (f2 ko (aq 0) (fC (.str t))))) [some (.str p,false),some (v,false)]=some false:=(bc (cq rr) λ_=>bc (cq rr) λ_=>cq rr).trans (by rw[h])
def c3t {p q r t:Str}{v:D}(h:(decide (p=q) || (decide (p=r) || decide (p=t)))=true):jw (bJ (f2 ko (aq 0) (fC (.str q)))) (jw (bJ (f2 ko (aq 0) (fC (.str r)))) (bJ (f2 ko (aq 0) (fC (.str t))))) [some (.str p,false),some (v,false)]=some true:=(bc (cq rr) λ_=>bc (cq rr) λ_=>cq rr).trans (by rw[h])
def xw {p:Str}{v:D}(h0:(decide (p=("day" : Str)) || decide (p=("since" : Str)))=false)(hp:(decide (p=("office" : Str)) || (decide (p=("by" : Str)) || decide (p=("person" : Str))))=true)(h:kJ [v]=some (.bl true,false)):cS [.str p,v]=some (.bl true,false):=ah rr (am (c2 h0) (aP (c3t hp) (ai (aI rr h))))
def G0 {v:D}(h:gR [v]=some (.bl true,false)):cS [.str "pieces",v]=some (.bl true,false):=ah rr (am (c2 S9) (am (c3 S9) (am (cq S9) (am (cq S9) (am (cq S9) (am (cq S9) (am (cq S9) (am (cq S9) (aP (cq S9) (ai (aI rr h)))))))))))
noncomputable def iz (z:Str):Bool:=GQ (.str z) [.str "by",.str "person",.str "whom"]
def there:D->Bool
 |.non=>false
 |_=>true
@[simp] def ZB:there .non=false:=rfl
@[simp] def ZC (z:Str):there (.str z)=true:=rfl
@[simp] def ZD (z:Int):there (.int z)=true:=rfl
@[simp] def ZE (z:LD):there (.tup z)=true:=rfl
def Ag (d:D)(h:Fx d=false):qe d .non=some (.bl (there d),false):=by
 cases d<;>simp[there]at h |-
noncomputable def BM (l:List (Str×D)):LD:=(l.filter λx=>iz x.1 && there x.2).map (·.2)
structure Nm7 (zs:List Str):Prop where
 len:zs.length=7
 nd:zs.Nodup
 nm:∀z∈zs,oA z=true
noncomputable def off (zs:LS)(k:Nat):Str:=zs.getD (if k=0 then 5 else 6) ""
def Kr {zs:LS}(g:Nm7 zs):¬off zs 0=off zs 2:=by
 obtain⟨l,nd,_⟩:=g;match zs,l with
 |[a,b,c,d,e,f,g],_=>
  intro h;have h:f=g:=h;simp_all
structure DeedG (zs:List Str)(k:Nat)(h:Int)(kind:Str)(aj:List D):Prop where
 parts:∃(parts:List Str)(ss:List Str),yw bT (.str kind)=some (.tup (parts.map .str),false)/\parts.length=aj.length/\(∀x∈parts.zip aj,cS [.str x.1,x.2]=some (.bl true,false))/\BM (parts.zip aj)=ss.map .str/\ss.length<=2/\∀s∈ss,s∈zs
 len:aj.length<=10
 flat:∀d∈aj,aR d=true/\Fx d=false
 day:(kind=("root" : Str)/\(k=0\/k=2)/\∃r,aj=.str (off zs k)::r)\/(kind≠("root" : Str)/\(∃(day:Int)(r:List D),aj=.int day::r/\day<=h/\0<=day/\(kind=("chosen" : Str)->∃a b c s,r=[a,b,c,.int s]/\day<=s))/\lG bT (.str kind) (.str "day")=some (.int 0,false))
def Ah (zs:LS)(k:Nat)(r:D):Prop:=∃h kind aj,r=row h kind aj/\0<=h/\h<=9999/\DeedG zs k h kind aj
def Pu (k q:Str):ko (.str k) (.str q)=some (.bl (decide (k=q)),false):=X9
noncomputable def xy0:D->{d//aR d=true}
 |.tup [_,.tup (.str _::.int d::_)]=>⟨.int d,rr⟩
 |_=>⟨.non,rr⟩
noncomputable def Sn (r:D):D:=(xy0 r).1
def Oa {k:Nat}{h:Int}{kind:Str}{aj:LD}(g:DeedG zs k h kind aj):bp [row h kind aj]=some (Sn (row h kind aj),false):=by
 rcases g.day with⟨e,_,r,rfl⟩|⟨e,⟨day,r,rfl,_⟩,hi⟩
 .exact ah rr (aP (ca (f8 (aI rr (cW _ _ _)) rr (by rw[Pu,mf e]))) (ai rr))
 .exact ah rr (am (ca (f8 (aI rr (cW _ _ _)) rr (by rw[Pu,oC e]))) (ai (aI rr (ba hi rr))))
def Ks {k:Nat}{h:Int}{kind:Str}{aj:LD}(g:DeedG zs k h kind aj):ou [.tup (.str kind::aj)]=some (.bl true,false):=by
 obtain⟨parts,ss,hp,hl,ha,_⟩:=g.parts;have M:(bT.lookup kind).isSome=true:=by
  simp_all
 have hsz:=g.len;have O:f2 dI (aq 0) (fC (.int 0)) [some (.tup (.str kind::aj),false)]=some (.str kind,false):=by simp[sv]
 have a:=EC (x:=.str kind) (b:=false) O hp;refine ah rr (am (bc (p:=false) (q:=false) X9 λ_=>bc (p:=false) (q:=false) (ca (b:=false) I9) λ_=>aK (p:=true) (ca (b:=false) (aI (a7 O rr) X9))) (am (bc (p:=false) (q:=false) (ca (b:=false) (EC (x:=.str kind) (b:=false) O ?_)) λ_=>ca (b:=false) (f8 (x:=.int ((aj.length+1:Nat):Int)) (y:=.int (1+(parts.length:Int))) (b1:=false) (b2:=false) X9 (f8 (x:=.int 1) (y:=.int parts.length) (b1:=false) (b2:=false) rr (aI (a7 a rr) X9) X9) ?_)) (ai (aI (ds:=[.lst ((parts.zip aj).map λ_=>.bl true)]) ?_ (nE _)))))
 .simp only[AW,M];rfl
 .simp;lia
 .have:=ge (fi:=F3 (f1 (yw bT) _) (Lq (aq 0) (m6 (fC (.int 1))) oG)) (nT:=2) (cap:=[]) (tg:=Ic [0,1]) (fe:=fA cS (ak (aq 0) (ak (aq 1) ay))) (parts.zip aj) (λx=>.tup [.str x.1,x.2]) (λ_=>.bl true)
   (by
    show(f1 (yw bT) _ _).bind _=_;rw[a];simp[VR,Ad]) (by rw[length_zip];lia) λx hx=>by
    exact⟨_,rr,false,aI (by simp[cj]) (ha x hx)⟩
  exact a7 (b:=true) this rr
def G1 (r:D):aR (Sn r)=true:=(xy0 r).2
def BN {k:Nat}{h:Int}{kind:Str}{aj:LD}(g:DeedG zs k h kind aj):jN [row h kind aj]=some (.bl true,false):=by
 have hd:=Oa g;have M:∀ {hh:FS}{r:Option Res},hh _=r->bN (dN 1 (fA bp (ak (aq 0) ay))) hh [some (row h kind aj,false),none]=r:=λe=>wP (b:=false) (aI rr hd) (G1 _) e;rcases g.day with⟨e,_,r,rfl⟩|⟨e,⟨day,r,rfl,f,d,O⟩,hi⟩
 .exact ah rr (M (aP (ca (b:=false) (f8 (x:=.non) (y:=.non) rr rr (by simp[Fv]))) (ai rr)))
 .refine ah rr (M (am (ca (b:=false) (f8 (x:=.int day) (y:=.non) (b1:=false) rr rr (by simp[Fv]))) (am ((bS (q:=false) (ca (b:=false) (f8 (b2:=false) (aI rr (cW _ _ _)) rr (Pu _ _))) λhc=>?_).trans (by rw[Bool.and_false])) (ai ?_))))
  .have hc:=xG hc;subst hc;obtain⟨a,b,c,s,rfl,hs⟩:=O rr;refine ca (b:=false) (f8 (y:=.int day) (aI rr (ba (i:=4) (wO S9) rr)) rr ?_);simp;lia
  .refine f8 (x:=.int day) (y:=.int h) (b1:=false) (b2:=false) rr (by simp[row,sv]) ?_;simp;lia
def Ob {k:Nat}{r:D}(g:Ah zs k r):qW [r]=some (.bl true,false):=by
 obtain⟨h,kind,aj,rfl,h0,h1,g⟩:=g;refine ah rr (am (bc (p:=false) (by simp[row]) λ_=>by simp[row]) (ai ((bP (aI (by simp[row,sv]) (NZ h0 h1)) λ_=>(bP (aI (by simp[row,sV]) (Ks g)) λ_=>aI rr (BN g)).trans rr).trans rr)))
noncomputable def ED:D->Str
 |.tup [_,.tup (_::.str o::_)]=>o
 |_=>("" : Str)
def Oc:lG bT (.str "root") (.str "office")=some (.int 0,false):=wO S9
def rX {k:Nat}{r:D}(g:Ah zs k r)(h:aG r=true):av [r,.str "office"]=some (.str (ED r),false)/\ED r=off zs k/\(k=0\/k=2):=by
 obtain⟨a,kind,aj,rfl,_,_,g⟩:=g;have h:=xG h;subst h;rcases g.day with⟨_,hk,r,rfl⟩|⟨e,_⟩
 .exact⟨ba Oc rr,rr,hk⟩
 simp_all
def rY {k:Nat}{r:D}(g:Ah zs k r):bo [r]=some (.str (kindOf r),false):=by
 obtain⟨a,kind,aj,rfl,_⟩:=g;exact cW _ _ _
def Od (k:Str)(ws:LS):Fw (.str k) (.lst (ws.map .str))=some (.bl (decide (k∈ws)),false):=by
 simp only[Fw,fj,vJ,mU];rw[if_pos ⟨rr,kO ws⟩]
def Ai (zs:LS)(aa:LD):Prop:=(aa.length<=24/\Nm7 zs)/\∀(j:Nat) r,aa[j]? = some r->Ah zs j r
def Ai.mem {aa:LD}(g:Ai zs aa){r:D}(h:r∈aa):∃k,Ah zs k r:=by
 obtain⟨j,hj⟩:=mem_iff_getElem?.mp h;exact⟨j,g.2 j r hj⟩
def G2 {aa:LD}(g:Ai zs aa){i:Nat}{r:D}(hr:aa[i]? = some r):eK [.tup (aa.take i),r]=some (.bl false,false):=by
 have k:=g.2 i r hr;have l:=g.1.1;refine ah rr (ai ((bP (p:=aG r) (q:=false) (b1:=false) (f8 (b1:=false) (b2:=false) (aI (ds:=[r]) rr (rY k)) rr (Pu _ _)) λO=>?_).trans (by rw[Bool.and_false])));obtain⟨ho,m,hk⟩:=rX k O;have M:∀x∈aa.take i,∃j,j<i/\Ah zs j x:=λx hx=>by
  obtain⟨j,hj⟩:=mem_iff_getElem?.mp hx;rw[List.getElem?_take]at hj;split at hj
  .rename_i n;exact⟨j,n,g.2 j x hj⟩
  simp_all
 have hc:=de (fi:=df (aq 0)) (nT:=1) (cap:=[]) (tg:=fz 0) (c:=bJ (f2 ko (fA bo (ak (aq 0) ay)) (fC _))) (fe:=fA av (ak (aq 0) (ak (fC (.str "office")) ay))) (ρ:=[some (.tup (aa.take i),false)]) (aa.take i) (λx=>x) aG _ X9 I9 λx hx=>by
  obtain⟨j,hj,a⟩:=M x hx;exact⟨_,rr,ca (b:=false) (f8 (x:=.str (kindOf x)) (b1:=false) (b2:=false) (aI (ds:=[x]) (by simp[cj]) (rY a)) rr (Pu _ _)),λhx=>⟨false,aI (by simp[cj]) (rX a hx).1⟩⟩
 have d:gk [.tup (aa.take i)]=some (.lst ((((aa.take i).filter aG).map ED).map .str),true):=by
  rw[uP];exact ah rr (ai hc)
 refine f8 (x:=.str (ED r)) (b1:=false) (b2:=true) (aI rr ho) (aI rr d) ?_;rw[Od];congr 3;refine oC λo=>?_;refine cX λG K=>?_;obtain⟨x,hx,e⟩:=vO o;obtain⟨hx,f⟩:=vN hx;obtain⟨j,hj,a⟩:=M x hx;obtain⟨_,h,s⟩:=rX a f;apply K;clear K;rw[m,h]at e;have:=Kr g.1.2;lia
theorem Aj:∀(ss M:LS){x:Str},x∈ss.foldl ie M->x∈M\/x∈ss
 |[],M,x,h=>.inl h
 |y::ss,M,x,h=>by
  rcases Aj ss _ h with h|h
  .rcases yz.mp h with h|h
   .exact .inl h
   simp_all
  simp_all
theorem rZ:∀(ss M:LS),M.Nodup->(ss.foldl ie M).Nodup
 |[],M,h=>h
 |y::ss,M,h=>rZ ss _ (qo h y)
theorem Ak {ss:LS}{x:Str}(h:x∈dG ss):x∈ss:=by
 rcases Aj ss [] h with h|h
 .cases h
 .exact h
theorem Al:∀(l m:LS),l.Nodup->(∀x∈l,x∈m)->l.length<=m.length
 |[],m,_,_=>uN _
 |x::l,m,h,s=>by
  rw[nodup_cons]at h;have:=Al l _ h.2 λy hy=>(List.mem_erase_of_ne (b:=x) (λe=>h.1 (by rw[<-e];exact hy))).mpr (s y (mZ _ hy));grind
def Kt {h:Int}{kind:Str}{aj:LD}{parts:LS}(hp:yw bT (.str kind)=some (.tup (parts.map .str),false)):gm [row h kind aj]=some (.lst ((parts.zip aj).map λx=>.tup [.str x.1,x.2]),true):=by
 refine ah rr (ai ?_);have e1:f1 _ (fA _ (ak (aq 0) ay)) [some (row h _ aj,false)]=some _:=EC (aI rr (cW h _ _)) hp;have e2:Lq (f2 dI (aq 0) (fC (.int 1))) (m6 (fC (.int 1))) oG [some (row h kind aj,false)]=some (.tup aj,false):=by simp[row,sV,VR]
 show(((f1 _ _ [some _]).bind λx=>(Lq _ _ _ [some _]).bind _).map _)=_;rw[e1,e2];simp[Ad]
def G3 {k:Nat}{r:D}(g:Ah zs k r):∃ss:LS,gT [r]=some (.lst (ss.map .str),true)/\ss.length<=2/\∀s∈ss,s∈zs:=by
 obtain⟨h,kind,aj,rfl,_,_,g⟩:=g;refine cX λG K=>?_;obtain⟨parts,ss,hp,hl,_,hk,O,a⟩:=g.parts;apply K;clear K;have M:=de (fi:=df (fA gm (ak (aq 0) ay))) (nT:=2) (cap:=[]) (tg:=Ic [0,1]) (c:=fQ (bJ (f2 Fw (aq 0) (fC gg))) (bJ (f2 qe (aq 1) (fC .non)))) (fe:=aq 1)
  (ρ:=[some (row h kind aj,false),none]) (parts.zip aj) (λx=>.tup [.str x.1,x.2]) (λx=>iz x.1 && there x.2) (·.2) (by
   have e1:fA gm (ak (aq 0) ay) [some (row h kind aj,false),none]=_:=aI rr (Kt hp);simp_all) (by
   have:=g.len;simp<;>lia) λx hx=>by
   have d:=(g.flat x.2 (of_mem_zip hx).2);refine⟨_,rr,bS (ca (b:=false) ?_) λ_=>ca (b:=false) ?_,λ_=>⟨false,?_⟩⟩
   .rfl
   .exact f8 (x:=x.2) (y:=.non) (b1:=false) (b2:=false) (by simp[cj]) rr (Ag _ d.2)
   rfl
 refine⟨mD (dG ss),ah rr (bx ?_ (cN ss) (ai ?_)),?_,?_⟩
 .exact hk ▸ M
 .simp<;>lia
 .rw[(cK _).length_eq];exact vR (mB ss) O
 .grind[Ak,cK]
def G4 {aa:LD}(g:∀r∈aa,∃k,Ah zs k r)(hl:aa.length<=60)(O:zs.length=7):∃n:Nat,gn [.tup aa]=some (.int n,false)/\n<=7:=by
 obtain⟨ρ',e,ys,v,rfl,hz,M⟩:=cL (tg:=fz 2) (g:=pv) (λi ρ=>∃(ys:LS)(v:OB),ρ=[some (.tup aa,false),some (.lst (ys.map .str),true),v]/\ys.length<=2*i/\∀z∈ys,z∈zs) aa
  _ ⟨[],none,rr,X9,X9⟩ (by
   rintro i d ρ hd ⟨ys,v,rfl,hz,M⟩;have hi:=(vV hd).1;obtain⟨k,a⟩:=g d (vL hd);obtain⟨ss,hp,f,c⟩:=G3 a;have hsz:(ys.map D.str).length+(ss.map D.str).length<=sizeLine:=cM I9;refine⟨_,[some _,some _,some (d,false)],rr,.inl ?_,ys++ss,some (d,false),rr,I9,?_⟩
   .have hv:fA gT (ak (aq 2) ay) [some (.tup aa,false),some (.lst (ys.map .str),true),some (d,false)]=some _:=aI (ds:=[d]) rr hp;show Ik 1 _ [some _,some _,some (d,false)]=_;simp only[Ik,List.getElem?_cons_succ,List.getElem?_cons_zero,hv,vJ];rw[if_pos ⟨trivial,cN ss,hsz⟩];simp
   grind)
 refine⟨(dG ys).length,ah rr (bx (ds:=[]) s9 rr (cm (jd (ds:=aa) (by simp[kZ]) e) (ai (EC (b:=false) rr ?_)))),?_⟩
 .simp<;>lia
 .exact vR (Al (dG ys) zs (rZ ys [] nodup_nil) λz hz=>M z (Ak hz)) (le_of_eq O)
def BO {aa:LD}(g:Ai zs aa){i:Nat}(hi:i<aa.length):jf [.tup aa,.int i]=some (.bl false,false):=by
 obtain⟨r,hr⟩:∃r,aa[i]? = some r:=⟨_,vU hi⟩;have ha:=bi hr;have a:=g.1.1;have M:∀ρ:DL.Env,ρ[0]? = some (some (.tup aa,false))->ρ[1]? = some (some (.int i,false))->f2 dI (aq 0) (aq 1) ρ=some (r,false):=λρ h0 h1=>by simp[h0,h1,ha]
 obtain⟨n,hn,c⟩:=G4 (λx hx=>g.mem (mem_of_mem_take hx)) I9 g.1.2.len;have O:=Ac aa (i+1);refine ah rr (am (bc (p:=false) (q:=false) (ca (b:=false) (by simp[jM];lia)) λ_=>aK (p:=true) (ca (b:=false) (aI (ds:=[r]) (a7 (M _ rr rr) rr) (Ob (g.2 i r hr))))) (ai ((qT (p:=false) (q:=false) (aI (a7 (b:=false) (by simp[Ac]) (a7 (M _ rr rr) rr)) (G2 g hr)) λ_=>f8 (y:=.int 20) (b2:=false) (aI (a7 (b:=false) (by simp;exact O) rr) hn) rr I9).trans rr)))
def Am {aa:LD}(g:Ai zs aa)(hf:aX aa=true)(d:D)(hd:d=.lst aa\/d=.tup aa):fg [d]=some (.tup aa,false):=by
 have hl:=g.1.1;obtain⟨ρ',e,v,rfl⟩:=qQ (tg:=fz 2) (g:=qX) _ (λi ρ=>∃v:Option _,ρ=[some (d,false),some (.tup aa,false),v])
  _ ⟨none,rr⟩ (by
   rintro i ρ hi ⟨v,rfl⟩;exact⟨_,_,rr,.inl (gM (ca (aI rr (BO g hi))) rr),some _,rr⟩)
 refine ah rr (am (aK (p:=true) (ca (b:=false) (aI (a7 rr (a7 (d:=.tup [.ty "list",.ty "tuple"]) (b:=false) s9 rr)) ?_))) (wP (b:=false) (aI rr ?_) (by simp[hf]) (cm (gb (eJ (b:=false) X9 N9) e) (kI rr))))
 .rcases hd with rfl|rfl<;>simp
 .rcases hd with rfl|rfl<;>simp
end Lw
namespace Lw
open PySem PySem.Spec DL L2
def An (a:Int){m:Int}(h:0<m):jx (.int a) (.int m)=some (.int (a % m),false):=by simp[h]
def VS (a:Int){m:Int}(h:0<m)(h2:m<1073741824):f6 (.int a) (.int m)=some (.int (a / m),false):=by simp[h,h2]
def im {f:FE}{ρ:DL.Env}{a m:Int}(e:f ρ=sI a)(h:0<m):f2 jx f (fI m) ρ=sI (a % m):=aJ _ _ e rr (An a h)
def sd {f:FE}{ρ:DL.Env}{a m:Int}(e:f ρ=sI a)(h:0<m)(h2:m<1073741824):f2 f6 f (fI m) ρ=sI (a / m):=aJ _ _ e rr (VS a h h2)
def BP (a:Int){b:Int}(h : -1000000<=b/\b<=1000000):ym (.int a) (.int b)=some (.int (a*b),false):=by
 have : -18446744073709551616<b/\b<18446744073709551616:=N9
 simp[this]
def xy {k:Int}(h : -1000000000000<=k/\k<=1000000000000):Builtin.Int.intBits k<=64:=intBits_le_64 N9 N9
def pG {ns:LI}(hf:RJ ns)(k:Nat)(hk:k<=100):∃c:Int,qZ [.lst (ns.map .int),.int k]=sI c:=by
 have M:∀ρ:DL.Env,ρ[0]? = some (sL (ns.map .int))->fA hV (fV 0 ay) ρ=sI ns.length:=λρ h=>by
  simp_all
 have dJ:∀v:Int,Builtin.Int.intBits v<=2097152->Fm (f2 jx (f2 VB (aq 2) (aq 2)) (fI 2147483423)) [sL (ns.map .int),sI k,sI v]=some (.rt (.int (v*v % 2147483423)) false):=λv hv=>
  ai (im (aJ (.int v) (.int v) rr rr (by simp[hv])) H9)
 by_cases h:k<ns.length
 .refine⟨ns.getD k 0,ah rr (aP (bB (aJ (.int k) (.int ns.length) rr (M _ rr) I9)) (ai (aJ (.lst (ns.map .int)) (.int k) rr rr ?_)))⟩;have:=CZ (xs:=ns) (i:=k) N9 (by simpa using h);rw[Int.toNat_natCast]at this;exact this
 .have a:Builtin.Int.intBits (70001*(k:Int)+37)<=64:=xy N9;have f:f2 iU (f2 ym (fI 70001) (aq 1)) (fI 37) [sL (ns.map .int),sI k,none]=sI (70001*k+37):=aJ (.int (70001*k)) (.int 37) (aJ (.int 70001) (.int k) rr rr (BP _ N9)) rr rr;have g:bJ (f2 Tl (aq 1) (fA hV (fV 0 ay))) [sL (ns.map .int),sI k,none]=some false:=bB (aJ (.int k) (.int ns.length) rr (M _ rr) I9);by_cases hz:0<ns.length
  .have O:(0:Int)<ns.length:=N9
   have h5:=mod_lt (x:=(k:Int)*29) O;obtain⟨j,hj⟩:∃j:Nat,(k:Int)*29 % ns.length=j:=⟨((k:Int)*29 % ns.length).toNat,N9⟩;have b:j<ns.length:=N9
   have hb:Builtin.Int.intBits (ns.getD j 0)<=1048576:=hf _ (by grind);have ei:f2 dI (aq 0) (f2 jx (f2 ym (aq 1) (fI 29)) (fA hV (fV 0 ay))) [sL (ns.map .int),sI k,sI (70001*k+37)]=sI (ns.getD j 0):=by
    refine aJ (.lst (ns.map .int)) (.int j) rr (hj ▸ aJ (.int (k*29)) (.int ns.length) (aJ (.int k) (.int 29) rr rr (BP _ H9)) (M _ rr) (An _ O)) ?_;have:=CZ (xs:=ns) (i:=j) N9 (by simpa using b);rw[Int.toNat_natCast]at this;exact this
   generalize ns.getD j 0=x at hb ei;have d:(k:Int)*k<=10000/\0<=(k:Int)*k:=by
    have h1:k*k<=100*100:=Nat.mul_le_mul hk hk;grind
   have ev:f2 iU (f2 iU (f2 ym _ (fI 48271)) (f2 ym (f2 ym (aq 1) (aq 1)) (fI 7001))) (fI 17) [sL (ns.map .int),sI k,sI (70001*k+37)]=sI (x*48271+k*k*7001+17):=
    aJ (.int (x*48271+k*k*7001)) (.int 17) (aJ (.int (x*48271)) (.int (k*k*7001)) (aJ (.int x) (.int 48271) ei rr (BP _ H9)) (aJ (.int (k*k)) (.int 7001) (aJ (.int k) (.int k) rr rr (BP _ N9)) rr (BP _ H9)) rr) rr rr
   generalize (k:Int)*k=y at d ev;have e:Builtin.Int.intBits (x*48271+y*7001+17)<=2097152:=by
    have h1:=intBits_mul_le hb (xy (k:=48271) H9);have h2:=intBits_add_le h1 (xy (k:=y*7001) N9);have h3:=intBits_add_le h2 (xy (k:=17) H9);exact vR h3 H9
   exact⟨_,ah rr (am g (fu (.int (70001*k+37)) f rr (cm (mM (bB (aJ (.int ns.length) (.int 0) (M _ rr) rr I9)) (yX ev rr)) (dJ _ e))))⟩
  .refine⟨_,ah rr (am g (fu (.int (70001*k+37)) f rr (cm (gM (bB (aJ (.int ns.length) (.int 0) (M _ rr) rr (by rw[show(ns.length:Int)=0 by lia];rfl))) rr) (dJ (70001*k+37) (vR a H9)))))⟩
def Ku {ρ:DL.Env}{i n:Nat}{ds:LD}{M O:FE}{d:D}{b b':Bool}(e:ρ[i]? = some (some (.lst ds,true)))(ev:O ρ=some (d,b))(ek:M ρ=some (.int n,b'))(hn:n<ds.length)(hf:aR d=true):ME i M O ρ=some (.nx (ρ.set i (some (.lst (ds.set n d),true)))):=by
 simp_all[GN]
def Pw (x:Int):0<=x % 26/\x % 26<26:=mod_lt H9
noncomputable def se:PySem.Str:="nopqrstuvwxyzabcdefghijklm"
def G5:se.cps.size=26:=S9
def Oe (x:Int):Nat:=se.cps.toList.getD (x % 26).toNat 0
def Kv (x:Int):dI (.str se) (.int (x % 26))=sS ⟨#[Oe x]⟩:=DL.AH (Pw x).1 (by simp_all[G5,Pw]) S9
def Kw:∀i:_root_.Fin 26,rW (se.cps.toList.getD i.val 0)=true:=S9
def Kx:∀i j:_root_.Fin 26,se.cps.toList.getD i.val 0=se.cps.toList.getD j.val 0->i=j:=S9
def EE (x:Int):rW (Oe x)=true:=Kw ⟨(x % 26).toNat,N9⟩
def Of {x y:Int}(h:Oe x=Oe y):x % 26=y % 26:=by
 have:=Kx ⟨(x % 26).toNat,N9⟩ ⟨(y % 26).toNat,N9⟩ h;grind
def sg (cs:LN):LS:=cs.map λc=>⟨#[c]⟩
theorem Ky:∀cs:LN,((sg cs).map (·.length)).sum=cs.length
 |[]=>rr
 |c::cs=>by
  show 1+((sg cs).map _).sum=cs.length+1;rw[Ky cs];lia
theorem Ao:∀(zs:LS)(y:Str),(Str.join ("" : Str) (y::zs)).cps.toList=(y::zs).flatMap λz=>z.cps.toList
 |[],y=>by rw[flatMap_cons,List.flatMap_nil,uQ];rfl
 |z::r,y=>by
  have M:∀a b:Str,(a++b).cps.toList=a.cps.toList++b.cps.toList:=λa b=>by show(a.cps++b.cps).toList=_;simp
  show(y++("" : Str)++Str.join _ _).cps.toList=_;rw[M,M,Ao r z,show("" : Str).cps.toList=[]from rr,uQ];rfl
def Kz {zs:LS}(h:zs≠[]):(Txt.join ("" : Str) zs).cps.toList=zs.flatMap λz=>z.cps.toList:=by
 cases zs with
 |nil=>exact absurd rr h
 |cons y zs=>
  simp_all[Txt.join,StrLaws.glued_eq_join,Ao]
def BQ {cs:LN}(h:cs≠[]):(Txt.join ("" : Str) (sg cs)).cps.toList=cs:=by
 simp_all[Kz,sg,List.flatMap_map]
def VT {cs:LN}(h1:1<=cs.length)(M:cs.length<=8)(hl:∀c∈cs,rW c=true):oA (Txt.join ("" : Str) (sg cs))=true:=by
 have e:=BQ (cs:=cs) (λz=>by rw[z]at h1;cases h1);unfold oA;rw[<-Af];simp_all
def Og (cs:LN)(h:cs.length<=1000):Ia (.str "") (.lst ((sg cs).map .str))=sS (Txt.join ("" : Str) (sg cs)):=by
 show(eC _).bind _=_;rw[ng];show(if _ then _ else _)=_;rw[Ky,show("" : Str).length=0 from rr,if_pos N9]
def K1 (c:Int):∃zs:LS,o0 [.int c]=lT (zs.map .str)/\Nm7 zs:=by
 have u:=mod_lt (x:=c) (m:=8) H9;obtain⟨n,hn⟩:∃n:Nat,1+c % 8=n:=⟨(1+c % 8).toNat,N9⟩;let bs:LN:=(List.range n).map λ(k:Nat)=>Oe (c / (4+3*k));have O:bs.length=n:=by simp[bs]
 have o:∀x∈bs,rW x=true:=λx hx=>by obtain⟨k,_,rfl⟩:=vO hx;exact EE _
 have hb:=ge (fi:=jA (f2 iU (fI 1) (f2 jx (aq 0) (fI 8)))) (nT:=1) (cap:=[1,0]) (tg:=fz 0) (fe:=f2 dI (aq 1) (f2 jx (f2 f6 (aq 2) (f2 iU (fI 4) (f2 ym (fI 3) (aq 0)))) (fI 26)))
  (ρ:=[sI c,sS se,none,none,none,none,none]) (List.range n) (λ(k:Nat)=>.int k) _
  (by rw[eJ (j:=n) (b:=false) (hn ▸ aJ (.int 1) (.int (c % 8)) rr (im rr H9) rr) N9,uo,uP];rfl) I9 λk hk=>by
   have hk:=mem_range.mp hk;exact⟨_,rr,false,aJ (.str se) (.int (c / (4+3*k) % 26)) rr (im (aJ (.int c) (.int (4+3*k)) rr (aJ (.int 4) (.int (3*k)) rr (aJ (.int 3) (.int k) rr rr (BP _ N9)) rr) (VS _ N9 N9)) H9) (Kv _)⟩
 have p:(List.range n).map (λ(k:Nat)=>D.str ⟨#[Oe (c / (4+3*k))]⟩)=(sg bs).map .str:=by simp[sg,bs]
 rw[p]at hb;have s:=mod_lt (x:=c / 8) (m:=n) N9;obtain⟨a,ha⟩:∃a:Nat,c / 8 % n=a:=⟨(c / 8 % n).toNat,N9⟩;have f:a<bs.length:=N9
 let nm:Nat->LN:=λi=>bs.set a (Oe (c / 64+3*i));have M:∀i,(nm i).length=n:=λi=>by simp[nm,O]
 obtain⟨ρ',e,q,r,rfl⟩:=qQ (tg:=fz 5) (g:=B6) 7 (λi ρ=>∃q r:OB,ρ=[sI c,sS se,lT ((sg bs).map .str),sI a,lT (((List.range i).map λi=>Txt.join ("" : Str) (sg (nm i))).map .str),q,r])
  _ ⟨none,none,rr⟩ (by
   rintro i ρ hi ⟨q,r,rfl⟩;have es:((sg bs).map D.str).set a (.str ⟨#[Oe (c / 64+3*i)]⟩)=(sg (nm i)).map .str:=by simp only[sg,nm,uP,map_set,Function.comp]
   refine⟨_,_,rr,.inl (bx (ds:=(sg bs).map .str) X9 (cN _) (cm (Ku (n:=a) (ds:=(sg bs).map .str) (d:=.str ⟨#[Oe (c / 64+3*i)]⟩) (b:=false) (b':=false) rr ?_ rr (by simpa [sg]using f) rr) (jc (d:=.str (Txt.join ("" : Str) (sg (nm i)))) (b:=false) rr ?_ rr (b7 I9)))),some (.int i,false),some (.lst ((sg (nm i)).map .str),true),?_⟩
   .exact aJ (.str se) (.int ((c / 64+3*i) % 26)) rr (im (aJ (.int (c / 64)) (.int (3*i)) (sd rr H9 H9) (aJ (.int 3) (.int i) rr rr (BP _ N9)) rr) H9) (Kv _)
   .rw[es];exact aJ (.str "") (.lst ((sg (nm i)).map .str)) rr rr (Og _ (by rw[M];lia))
   .rw[es,List.range_succ];simp)
 refine⟨(List.range 7).map λi=>Txt.join ("" : Str) (sg (nm i)),ah rr (fu (.str se) rr rr (bx hb (cN _) (fu (.int a) ?_ rr (bx (ds:=[]) s9 rr (cm (gb (eJ (j:=7) (b:=false) rr H9) e) (kI rr)))))),X9,?_,λz hz=>?_⟩
 .rw[<-ha];refine aJ (.int (c / 8)) (.int n) (sd rr H9 H9) ?_ (An _ N9);refine a0 [.lst ((sg bs).map .str)] (aM rr rr) ?_;rw[eY];simp[sg,O]
 .refine pairwise_map.mpr (List.Pairwise.imp_of_mem ?_ (List.nodup_range (n:=7)));intro i j hi hj t e;have e:=congrArg (λz:Str=>z.cps.toList) e;have e:nm i=nm j:=by
   have h1:∀i,nm i≠[]:=λi z=>by have:=M i;rw[z]at this;simp at this;lia
   simpa only[BQ (h1 i),BQ (h1 j)]using e
  have e:=congrArg (λl:LN=>l[a]?) e;simp only[nm,getElem?_set_self f,Option.some.injEq]at e;have:=Of e;have hi:=mem_range.mp hi;have hj:=mem_range.mp hj;lia
 .obtain⟨i,_,rfl⟩:=vO hz;refine VT (by rw[M];lia) (by rw[M];lia) λx hx=>?_;rcases List.mem_or_eq_of_mem_set hx with h|h
  .exact o x h
  .rw[h];exact EE _
def PV (p:Str)(d:D):Bool:=Yr (cS [.str p,d]) (.bl true) false
def jr:LS->LD->Bool
 |p::ps,d::ds=>PV p d && jr ps ds
 |_,_=>true
theorem kW:∀ {ps:LS}{ds:LD},jr ps ds=true->∀x∈ps.zip ds,cS [.str x.1,x.2]=some (.bl true,false)
 |[],_,_,x,h=>by simp at h
 |_::_,[],_,x,h=>by simp at h
 |p::ps,d::ds,h1,x,h=>by
  have h1:=(vC _ _ ▸ h1:PV p d=true/\jr ps ds=true);rcases vP h with rfl|h
  .exact wO h1.1
  .exact kW h1.2 x h
def aA {p:Str}{d:D}{ps:LS}{ds:LD}(h:PV p d=true)(r:jr ps ds=true):jr (p::ps) (d::ds)=true:=by unfold jr;rw[h,r];rfl
def jt:∀n:_root_.Fin 16,PV "day" (.int (n.val:Int))=true:=S9
def Px:∀n:_root_.Fin 30,PV "of" (.int (n.val:Int))=true:=S9
def K2:∀n:_root_.Fin 6,PV "further" (.int (n.val:Int))=true:=S9
noncomputable def MK:LN:=[1,2,3,5,7]
def xz:∀m∈MK,PV "matters" (.int ((m:Nat):Int))=true:=S9
def BR:∀m∈MK,m∈MS:=H9
noncomputable def Oh (d:Nat):List (Int×OI):=[(0,none),(0,some 30),(1,some 20),(d,some (d+8)),(d+1,none),(0,some 40)]
def x0:∀d:_root_.Fin 16,∀x∈Oh d.val,PV "stretch" (iu x)=true:=S9
def K3:∀n:_root_.Fin 18,PV "since" (.int (n.val:Int))=true:=S9
def vc {p:Str}{d:D}(h:cS [.str p,d]=some (.bl true,false)):PV p d=true:=by unfold PV;rw[h];rfl
def si {z:Str}(h:oA z=true):PV "by" (.str z)=true:=vc (xw S9 S9 (ki h))
def Ap {z:Str}(h:oA z=true):PV "person" (.str z)=true:=vc (xw S9 S9 (ki h))
def xA {z:Str}(h:oA z=true):PV "office" (.str z)=true:=vc (xw S9 S9 (ki h))
def K4:PV "whom" .non=true:=S9
def VU {z:Str}(h:oA z=true):PV "whom" (.str z)=true:=
 vc (ah rr (am (c2 S9) (am (c3 S9) (aP (cq S9) (ai ((qT (p:=false) (b1:=false) (by simp ) λ_=>a0 _ rr (ki h)).trans rr))))))
def So {ps:LS}(h1:1<=ps.length)(M:ps.length<=8)(h:∀p∈ps,oA p=true):PV "pieces" (.tup (ps.map .str))=true:=vc (G0 (BL h1 M h))
def Sr {c:Nat}{z:Str}(hc:c<3)(h:oA z=true):PV "changes" (.tup [.tup [.int (c:Int),.str z]])=true:=by
 have M:gS [.tup [.int (c:Int),.str z]]=some (.bl true,false):=ah rr (am (bc (p:=false) (q:=false) X9 λ_=>by simp) (ai ((bP (p:=true) (q:=true) (b1:=false) (a0 [.int (c:Int),.int 0,.int 7] (by simp[sv,ig]) (uM N9 N9)) λ_=>a0 [.str z] (by simp[sV]) (uO h)).trans rr)));have h1:=ge (fi:=df (aq 0)) (nT:=1) (cap:=[]) (tg:=fz 0) (fe:=fA gS (fV 0 ay)) (ρ:=[sT _,none]) [()] _ _ rr H9 λ_ _=>⟨[sF _],rr,false,a0 _ rr M⟩;have h2:=ge (fi:=df (aq 0)) (nT:=1) (cap:=[]) (tg:=fz 0) (fe:=ft 0 0) (ρ:=[sT _,none]) [()] _ (λ_=>.int (c:Int)) rr H9 λ_ _=>⟨[sT [.int (c:Int),.str z]],rr,false,by simp[sv]⟩;have h3:=ge (fi:=F3 (aq 1) (Lq (aq 1) (m6 (fI 1)) oG)) (nT:=2) (cap:=[]) (tg:=Ic [0,1]) (fe:=f2 Tl (aq 0) (aq 1)) (ρ:=[sT [.tup [.int (c:Int),.str z]],lT [.int (c:Int)]]) ([]:List Unit) (λ_=>.non) (λ_=>.bl true) O9 H9 λ_ h=>nomatch h;have e1:je [.tup _]=some (.bl true,false):=ah rr (am (bc (p:=false) (q:=false) X9 λ_=>aK (p:=true) (ca (b:=false) (aI (a7 (b:=true) h1 rr) (nE [()])))) (bx h2 rr (ai (aI (ds:=[.lst []]) (a7 (b:=true) h3 rr) (nE ([]:List Unit))))));exact vc (ah rr (am (c2 S9) (am (c3 S9) (am (cq S9) (am (cq S9) (am (cq S9) (am (cq S9) (am (cq S9) (am (cq S9) (am (cq S9) (ai (aI rr e1))))))))))))
def ZF:iz ("office" : Str)=false:=S9
def ip2:iz ("matters" : Str)=false:=S9
def ip3:iz ("further" : Str)=false:=S9
def Yt:iz ("day" : Str)=false:=S9
def ZG:iz ("person" : Str)=true:=S9
def ip8:iz ("by" : Str)=true:=S9
def ZH:iz ("of" : Str)=false:=S9
def Py {zs:LS}{k day:Nat}{h:Int}{kind:Str}{r:LD}(parts ss:LS)(hc:yw bT (.str kind)=some (.tup (parts.map .str),false))(hl:parts.length=(D.int (day:Int)::r).length)(hp:jr parts (.int (day:Int)::r)=true)(hk:BM (parts.zip (.int (day:Int)::r))=ss.map .str)(O:∀s∈ss,s∈zs)(hf:(r.all λd=>aR d && !Fx d)=true)(hd:(day:Int)<=h)(h2:decide (ss.length<=2)=true:=by rfl)(M:decide (r.length<=9)=true:=by rfl)(hr:(decide (kind = "root") || decide (kind = "chosen"))=false:=by decide +kernel)(hi:lG bT (.str kind) (.str "day")=sI 0:=by exact bY):DeedG zs k h kind (.int (day:Int)::r):=
 have hr:=Bool.or_eq_false_iff.mp hr
 ⟨⟨parts,ss,hc,hl,kW hp,hk,xG h2,O⟩,by grind,λd hd=>by
  rcases vP hd with rfl|hd
  .exact⟨rr,rr⟩
  grind,.inr ⟨of_decide_eq_false hr.1,⟨day,_,rr,hd,N9,λe=>absurd e (of_decide_eq_false hr.2)⟩,hi⟩⟩
def EF (x:Int×OI):(aR (iu x) && !Fx (iu x))=true:=by rw[jY];rfl
structure Dw (zs:List Str)(k day:Nat)(kind:Str)(aj:List D):Prop where
 dd:Dd kind aj
 g:∀h:Int,(day:Int)<=h->DeedG zs k h kind aj
 p:kind = "leave" \/ kind = "named"->∃a b p l,aj=a::b::.str p::l/\p∈zs.take 5
 b:kind ≠ "root"->∃d b l,aj=d::.str b::l/\b∈zs
def Ss {kind:Str}{P:Prop}(e:(decide (kind = "leave") || decide (kind = "named"))=false):kind = "leave" \/ kind = "named"->P:=N9
section
variable {zs:LS}(z7:Nm7 zs) {k day n:Nat}{by_ sx:Str}(hd:day<16) (hb:by_∈zs)
include z7 hd hb
theorem Oi (kind:Str)(hk:kind = "death" \/ kind = "lost" \/ kind = "found"):Dw zs k day kind [.int (day:Int),.str by_]:=by
 refine⟨.three _ hk _ _,λh hh=>?_,Ss (by rcases hk with rfl|rfl|rfl<;>decide +kernel),λ_=>⟨_,_,_,rr,hb⟩⟩
 rcases hk with rfl|rfl|rfl<;>exact Py ["day","person"] [by_] bY rr (aA (jt ⟨day,hd⟩) (aA (Ap (z7.nm _ hb)) rr)) (by simp[BM,Yt,ZG]) (by simpa using hb) rr hh
theorem K5 (hn:n<30)(kind:Str)(hk:kind = "copy" \/ kind = "call"):Dw zs k day kind [.int (day:Int),.str by_,.int (n:Int)]:=by
 refine⟨.copy _ hk _ _ _,λh hh=>?_,Ss (by rcases hk with rfl|rfl<;>decide +kernel),λ_=>⟨_,_,_,rr,hb⟩⟩
 rcases hk with rfl|rfl<;>exact Py ["day","by","of"] [by_] bY rr (aA (jt ⟨day,hd⟩) (aA (si (z7.nm _ hb)) (aA (Px ⟨n,hn⟩) rr))) (by simp[BM,Yt,ip8,ZH]) (by simpa using hb) rr hh
theorem Ol (ho:sx∈zs.take 5){m f:Nat}(hm:m∈MK){x:Int×OI}(hx:x∈Oh day)(hf:f<6):Dw zs k day "leave" [.int (day:Int),.str by_,.str sx,.int (m:Int),iu x,.int (f:Int)]:=by
 have M:=mem_of_mem_take ho;exact⟨.leave _ _ _ m (BR m hm) x _,λh hh=>Py ["day","by","person","matters","stretch","further"] [by_,sx] bY rr (aA (jt ⟨day,hd⟩) (aA (si (z7.nm _ hb)) (aA (Ap (z7.nm _ M)) (aA (xz m hm) (aA (x0 ⟨day,hd⟩ x hx) (aA (K2 ⟨f,hf⟩) rr)))))) O9 (by simp[hb,M]) (by simp only[all_cons,EF];rfl) hh,λ_=>⟨_,_,_,_,rr,ho⟩,λ_=>⟨_,_,_,rr,hb⟩⟩
theorem Om (ho:sx∈zs){w:D}(hw:w=.non\/w=.str sx){m:Nat}(hm:m∈MK){x:Int×OI}(hx:x∈Oh day){p q:Str}(hp:p∈zs)(hq:q∈zs):Dw zs k day "paper" [.int (day:Int),.str by_,.int (m:Int),iu x,w,.tup [.str p,.str q]]:=by
 have M:=So (ps:=[p,q]) X9 X9 λz hz=>by
  rcases vP hz with rfl|hz
  .exact z7.nm _ hp
  .cases uT hz;exact z7.nm _ hq
 refine⟨.paper "paper" (.inl rr) _ _ m (BR m hm) x _ (by rcases hw with rfl|rfl<;>rfl) (by rcases hw with rfl|rfl<;>rfl),λh hh=>?_,Ss S9,λ_=>⟨_,_,_,rr,hb⟩⟩
 rcases hw with rfl|rfl
 .exact Py ["day","by","matters","stretch","whom","pieces"] [by_] bY rr (aA (jt ⟨day,hd⟩) (aA (si (z7.nm _ hb)) (aA (xz m hm) (aA (x0 ⟨day,hd⟩ x hx) (aA K4 (aA M rr)))))) O9 (by simpa using hb) (by simp only[all_cons,EF];rfl) hh
 .exact Py ["day","by","matters","stretch","whom","pieces"] [by_,sx] bY rr (aA (jt ⟨day,hd⟩) (aA (si (z7.nm _ hb)) (aA (xz m hm) (aA (x0 ⟨day,hd⟩ x hx) (aA (VU (z7.nm _ ho)) (aA M rr)))))) O9 (by simp[hb,ho]) (by simp only[all_cons,EF];rfl) hh
theorem Su {m:Nat}(hm:m∈MK){x:Int×OI}(hx:x∈Oh day)(hn:n<30){c:Nat}(hc:c<3){p:Str}(hp:p∈zs):Dw zs k day "like" [.int (day:Int),.str by_,.int (m:Int),iu x,.non,.int (n:Int),.tup [.tup [.int (c:Int),.str p]]]:=
 ⟨.paper _ (.inr rr) _ _ m (BR m hm) x _ rr rr,λh hh=>Py ["day","by","matters","stretch","whom","of","changes"] [by_] bY rr (aA (jt ⟨day,hd⟩) (aA (si (z7.nm _ hb)) (aA (xz m hm) (aA (x0 ⟨day,hd⟩ x hx) (aA K4 (aA (Px ⟨n,hn⟩) (aA (Sr hc (z7.nm _ hp)) rr))))))) O9 (by simpa using hb) (by simp only[all_cons,EF];rfl) hh,Ss S9,λ_=>⟨_,_,_,rr,hb⟩⟩
theorem EG (h5:by_∈zs.take 5)(ho:sx∈zs):Dw zs k day "named" [.int (day:Int),.str sx,.str by_]:=
 ⟨.named _ _ _,λh hh=>Py ["day","office","person"] [by_] bY rr (aA (jt ⟨day,hd⟩) (aA (xA (z7.nm _ ho)) (aA (Ap (z7.nm _ hb)) rr))) (by simp[BM,ZF,Yt,ZG]) (by simpa using hb) rr hh,λ_=>⟨_,_,_,_,rr,h5⟩,λ_=>⟨_,_,_,rr,ho⟩⟩
theorem Sv (ho:sx∈zs){o:Str}(M:o∈zs):Dw zs k day "heir" [.int (day:Int),.str by_,.str o,.str sx]:=
 ⟨.heir _ _ _ _,λh hh=>Py ["day","by","office","person"] [by_,sx] bY rr (aA (jt ⟨day,hd⟩) (aA (si (z7.nm _ hb)) (aA (xA (z7.nm _ M)) (aA (Ap (z7.nm _ ho)) rr)))) (by simp[BM,ZF,Yt,ZG,ip8]) (by simp[hb,ho]) rr hh,Ss S9,λ_=>⟨_,_,_,rr,hb⟩⟩
theorem K6 (ho:sx∈zs){o:Str}(M:o∈zs){s:Nat}(h1:day<=s)(h2:s<18):Dw zs k day "chosen" [.int (day:Int),.str by_,.str o,.str sx,.int (s:Int)]:=by
 refine⟨.chosen _ _ _ _ _,λh hh=>⟨⟨["day","by","office","person","since"],[by_,sx],bY,rr,kW (aA (jt ⟨day,hd⟩) (aA (si (z7.nm _ hb)) (aA (xA (z7.nm _ M)) (aA (Ap (z7.nm _ ho)) (aA (K3 ⟨s,h2⟩) rr))))),O9,X9,by simp[hb,ho]⟩,X9,λd hd=>?_,.inr ⟨S9,⟨day,_,rr,hh,N9,λ_=>⟨_,_,_,s,rr,N9⟩⟩,bY⟩⟩,Ss S9,λ_=>⟨_,_,_,rr,hb⟩⟩;simp at hd;rcases hd with rfl|rfl|rfl|rfl|rfl<;>exact⟨rr,rr⟩
end
def dv {α:Type}(l:List α)(F:α->D){ρ:DL.Env}{fl fx:FE}{b:Bool}{a m:Int}(M:fl ρ=some (.lst (l.map F),b))(ex:fx ρ=sI a)(h0:0<m)(hm:m<=l.length):∃x∈l.take m.toNat,f2 dI fl (f2 jx fx (fI m)) ρ=some (F x,false):=by
 have h:=mod_lt (x:=a) h0;obtain⟨j,hj⟩:∃j:Nat,a % m=j:=⟨(a % m).toNat,N9⟩;have hl:j<l.length:=N9
 refine⟨l[j],List.mem_take_iff_getElem.mpr ⟨j,N9,rr⟩,f8 M (hj ▸ im ex h0) ?_⟩;have:(l.map F)[j]? = some (F l[j]):=by simp_all
 simp[bi this]
def nF {zs:LS}(M:Nm7 zs)(j:Nat)(hj:j<7):∃z∈zs,∀ {ρ:DL.Env}{i:Nat},ρ[i]? = some (sL (zs.map .str))->ft i (j:Int) ρ=sS z:=by
 have hl:j<zs.length:=by rw[M.len];exact hj
 refine⟨zs[j],getElem_mem hl,λ{ρ i} h=>?_⟩;simp_all[bi]
def iP (r:D):Bool:=decide (kindOf r∈[("leave" : Str),"named"])
def Yu (zs:LS)(aa:LD):Prop:=(∀r∈aa,∃h kind aj,r=row h kind aj/\(kind = "leave" \/ kind = "named"->∃a b p l,aj=a::b::.str p::l/\p∈zs.take 5))/\∃r∈aa,iP r=true
def Aq {zs:LS}(q:Nm7 zs){aa:LD}(g:Yu zs aa)(hl:aa.length<=100)(c:Int):∃p∈zs.take 5,kM [.lst aa,.int c,.lst (zs.map .str)]=sS p:=by
 have o:∀r∈aa,iP r=true->∃h k a b p l,r=row h k (a::b::.str p::l)/\ao 2 r=p/\p∈zs.take 5:=λr hr hi=>by
  obtain⟨h,k,aj,rfl,hp⟩:=g.1 r hr;have:k∈[("leave" : Str),"named"]:=xG hi;obtain⟨a,b,p,l,rfl,h5⟩:=hp (by simpa using this);exact⟨h,k,a,b,p,l,rr,rr,h5⟩
 have hc:=de (fi:=df (aq 0)) (nT:=1) (cap:=[]) (tg:=fz 0) (c:=bJ (f2 Fw (f2 dI (ft 0 1) (fI 0)) (fA dn (ak (fS "leave") (ak (fS "named") ay))))) (fe:=f2 dI (ft 0 1) (fI 3))
  (ρ:=[sL aa,sI c,sL (zs.map .str),none]) aa (λr=>r) iP (λr=>.str (ao 2 r)) X9 N9 λr hr=>by
   obtain⟨h,k,aj,e,_⟩:=g.1 r hr;refine⟨_,rr,bB (aJ (.str k) (.tup [.str "leave",.str "named"]) ?_ (a0 [.str "leave",.str "named"] rr (bd _ X9)) ?_),λhi=>⟨false,?_⟩⟩
   .subst e;simp[cj,row,sV,sv]
   .rw[show iP r=decide (k∈[("leave" : Str),"named"]) by subst e;rfl];exact iM _ [("leave" : Str),"named"]
   .obtain⟨h,k,a,b,p,l,rfl,e2,_⟩:=o r hr hi;rw[e2];have h3:ly (D.str k::a::b::.str p::l) 3=some (.str p):=by have:=jb (xs:=D.str k::a::b::.str p::l) (j:=3) X9;simpa using this
    simp[cj,row,sV,h3]
 obtain⟨w,O,f⟩:=g.2;have s:0<(aa.filter iP).length:=List.length_pos_of_mem (mem_filter.mpr ⟨O,f⟩);have M:aX ((aa.filter iP).map λr=>D.str (ao 2 r))=true:=b8 λd hd=>by obtain⟨x,_,rfl⟩:=vO hd;rfl
 by_cases h5:0<c % 5
 .have m1:(0:Int)<((aa.filter iP).length:Nat):=N9
  obtain⟨x,hx,ex⟩:∃x∈aa.filter iP,f2 dI (aq 3) (f2 jx (f2 f6 (aq 1) (fI 5)) (fA hV (fV 3 ay))) [sL aa,sI c,sL (zs.map .str),lT ((aa.filter iP).map λr=>.str (ao 2 r))]=some (.str (ao 2 x),false):=by
   obtain⟨j,hj⟩:∃j:Nat,c / 5 % ((aa.filter iP).length:Nat)=j:=⟨(c / 5 % ((aa.filter iP).length:Nat)).toNat,by have:=mod_lt (x:=c / 5) m1;lia⟩;have i:j<(aa.filter iP).length:=by have:=mod_lt (x:=c / 5) m1;lia
   refine⟨(aa.filter iP)[j],getElem_mem i,aJ (.lst ((aa.filter iP).map λr=>.str (ao 2 r))) (.int j) rr (hj ▸ aJ (.int (c / 5)) (.int ((aa.filter iP).length:Nat)) (sd rr H9 H9) (a0 [.lst ((aa.filter iP).map λr=>.str (ao 2 r))] (aM rr rr) (by rw[eY,vI])) (An _ m1)) ?_⟩;have:((aa.filter iP).map λr=>D.str (ao 2 r))[j]? = some (.str (ao 2 (aa.filter iP)[j])):=by simp_all
   simp[bi this]
  refine cX λG K=>?_;obtain⟨t,u⟩:=vN hx;obtain⟨h,k,a,b,p,l,_,e2,n⟩:=o x t u;apply K;clear K;rw[e2]at ex;exact⟨p,n,ah rr (bx hc M (aP (bB (aJ (.int (c % 5)) (.int 0) (im rr H9) rr I9)) (ai ex)))⟩
 .obtain⟨p,hp,v⟩:=dv zs D.str (ρ:=[sL aa,sI c,sL (zs.map .str),lT ((aa.filter iP).map λr=>.str (ao 2 r))]) (fl:=aq 2) (fx:=f2 f6 (aq 1) (fI 5)) (b:=false) (a:=c / 5) (m:=5) rr (sd rr H9 H9) H9 (by rw[q.len];decide);exact⟨p,hp,ah rr (bx hc M (am (bB (aJ (.int (c % 5)) (.int 0) (im rr H9) rr I9)) (ai v)))⟩
noncomputable def lu:LS:=[("leave" : Str),"paper","like","copy","call"]
def lt4:∀f∈([4,3,2,1,0]:LN),f<6:=H9
def mk6:∀m∈([7,7,7,3,5,2]:LN),m∈MK:=H9
def Sw {zs:LS}{p:Str}(h:p∈zs):RO Z3 (.lst (zs.map .str)) (.str p)=sI (oj zs p):=by
 show(eC _).bind _=_;rw[ng];show(if oj zs p<zs.length then _ else _)=_;simp_all[oj]
section
variable {zs:LS}(z7:Nm7 zs) {aa:LD}(g:Yu zs aa) (hl:aa.length<=22) (k day:Nat) (hd:day<16) (c:Int)
include z7 g hl hd
theorem G6 (M:Str)(hw:M∈lu):∃aj,lP [.lst aa,.str M,.int day,.int c,.lst (zs.map .str)]=sT (.str M::aj)/\Dw zs k day M aj:=by
 obtain⟨p,i,u⟩:=Aq z7 g N9 c;have hp:p∈zs:=mem_of_mem_take i;obtain⟨m,hm,v⟩:=dv ([7,7,7,3,5,2]:LN) (λm=>.int (m:Int)) (ρ:=[sL aa,sS M,sI day,sI c,sL (zs.map .str),sS p,none,none,none,none]) (fl:=fA fD (ak (fI 7) (ak (fI 7) (ak (fI 7) (ak (fI 3) (ak (fI 5) (ak (fI 2) ay))))))) (fx:=f2 f6 (aq 3) (fI 40)) (b:=true) (a:=c / 40) (m:=6) (a0 [.int 7,.int 7,.int 7,.int 3,.int 5,.int 2] rr (cO _ X9)) (sd rr H9 H9) H9 H9;have hm:=mk6 m (mem_of_mem_take hm);obtain⟨x,hx,ex⟩:=dv (Oh day) iu (ρ:=[sL aa,sS M,sI day,sI c,sL (zs.map .str),sS p,sI m,none,none,none])
  (fl:=fA fD (ak (fA dn (ak (fI 0) (ak (fC .non) ay))) (ak (fA dn (ak (fI 0) (ak (fI 30) ay))) (ak (fA dn (ak (fI 1) (ak (fI 20) ay))) (ak (fA dn (fV 2 (ak (f2 iU (aq 2) (fI 8)) ay))) (ak (fA dn (ak (f2 iU (aq 2) (fI 1)) (ak (fC .non) ay))) (ak (fA dn (ak (fI 0) (ak (fI 40) ay))) ay)))))))
  (fx:=f2 f6 (aq 3) (fI 240)) (b:=true) (a:=c / 240) (m:=6) (a0 ((Oh day).map iu) (aM (a0 [.int 0,.non] rr (bd _ X9)) (aM (a0 [.int 0,.int 30] rr (bd _ X9)) (aM (a0 [.int 1,.int 20] rr (bd _ X9)) (aM (a0 [.int day,.int (day+8)] rr (bd _ X9)) (aM (a0 [.int (day+1),.non] rr (bd _ X9)) (aM (a0 [.int 0,.int 40] rr (bd _ X9)) rr)))))) (cO _ (by simp[Oh]))) (sd rr H9 H9) H9 (by simp[Oh])
 have hx:x∈Oh day:=mem_of_mem_take hx;let E:OB->OB->DL.Env:=λa b=>[sL aa,sS M,sI day,sI c,sL (zs.map .str),sS p,sI m,some (iu x,false),a,b];have O:∀w,bJ (f2 ko (aq 1) (fS w)) (E none none)=some (decide (M=w)):=λw=>bB (aJ (.str M) (.str w) rr rr (Pu _ _));have num:∀(q:Int),0<q->q<1073741824->∃n:Nat,n<30/\∀a b,f2 jx (f2 f6 (aq 3) (fI q)) (f2 iU (fA hV (fV 0 ay)) (fI 1)) (E a b)=sI n:=λq y q2=>by
  have h:=mod_lt (x:=c / q) (m:=(aa.length:Int)+1) N9;refine⟨(c / q % ((aa.length:Int)+1)).toNat,N9,λa b=>?_⟩;rw[Int.toNat_of_nonneg h.1];exact aJ (.int (c / q)) (.int (aa.length+1)) (sd rr y q2) (aJ (.int aa.length) (.int 1) (a0 [.lst aa] rr eY) rr rr) (An _ N9)
 refine cX λK W=>?_;obtain⟨n,hn,en⟩:=num 1440 H9 H9;obtain⟨n4,l,o⟩:=num 4320 H9 H9;obtain⟨r,h0,z⟩:=nF z7 0 H9;obtain⟨s,h1,e1⟩:=nF z7 1 H9;obtain⟨t,h2,e2⟩:=nF z7 2 H9;obtain⟨e,h3,A⟩:=nF z7 3 H9;apply W;clear W;have dJ:∀ {T:FS}{d:D},T (E none none)=some (.rt d false)->bN (dN 5 (fA kM (fV 0 (fV 3 (fV 4 ay))))) (bN (dN 6 _) (bN (dN 7 _) T)) [sL aa,sS M,sI day,sI c,sL (zs.map .str),none,none,none,none,none]=some (.rt d false):=λB=>
  fu (.str p) (a0 [.lst aa,.int c,.lst (zs.map .str)] rr u) rr (fu (.int m) v rr (fu (iu x) ex (jY _) B))
 simp only[lu,mem_cons,not_mem_nil,or_false]at hw;rcases hw with rfl|rfl|rfl|rfl|rfl
 .obtain⟨q,hq,eq⟩:=dv zs D.str (ρ:=E none none) (fl:=aq 4) (fx:=f2 iU (f2 iU (f2 (RO Z3) (aq 4) (aq 5)) (fI 1)) (f2 jx (f2 f6 (aq 3) (fI 1440)) (fI 4))) (b:=false) (a:=(oj zs p:Int)+1+c / 1440 % 4) (m:=5) rr
   (aJ (.int ((oj zs p:Int)+1)) (.int (c / 1440 % 4)) (aJ (.int (oj zs p)) (.int 1) (aJ (.lst (zs.map .str)) (.str p) rr rr (Sw hp)) rr rr) (im (sd rr H9 H9) H9) rr) H9 (by rw[z7.len];decide)
  obtain⟨f,hf,C⟩:=dv ([4,3,2,1,0]:LN) (λm=>.int (m:Int)) (ρ:=E (sS q) none) (fl:=fA fD (ak (fI 4) (ak (fI 3) (ak (fI 2) (ak (fI 1) (ak (fI 0) ay)))))) (fx:=f2 iU (f2 f6 (aq 2) (fI 2)) (f2 jx (f2 f6 (aq 3) (fI 5760)) (fI 2))) (b:=true) (a:=(day:Int) / 2+c / 5760 % 2) (m:=5) (a0 [.int 4,.int 3,.int 2,.int 1,.int 0] rr (cO _ X9)) (aJ (.int ((day:Int) / 2)) (.int (c / 5760 % 2)) (sd rr H9 H9) (im (sd rr H9 H9) H9) rr) H9 H9;exact⟨_,ah rr (dJ (aP ((O "leave").trans S9) (fu (.str q) eq rr (ai (a0 [.str "leave",.int day,.str p,.str q,.int m,iu x,.int f] (aM rr (aM rr (aM rr (aM rr (aM rr (aM rr (aM C rr))))))) (bd _ X9)))))),Ol z7 hd hp hq hm hx (lt4 f (mem_of_mem_take hf))⟩
 .obtain⟨w,hw,F⟩:=dv ([.non,.str r]:LD) id (ρ:=E none none) (fl:=fA fD (ak (fC .non) (ak (ft 4 0) ay))) (fx:=f2 f6 (aq 3) (fI 1440)) (b:=true) (a:=c / 1440) (m:=2) (a0 [.non,.str r] (aM rr (aM (z rr) rr)) (cO _ X9)) (sd rr H9 H9) H9 X9;have hw:w=.non\/w=.str r:=by grind
  exact⟨_,ah rr (dJ (am ((O "leave").trans S9) (aP ((O "paper").trans S9) (ai (a0 [.str "paper",.int day,.str p,.int m,iu x,w,.tup [.str s,.str t]] (aM rr (aM rr (aM rr (aM rr (aM rr (aM F (aM (a0 [.str s,.str t] (aM (e1 rr) (aM (e2 rr) rr)) (bd _ X9)) rr))))))) (bd _ X9)))))),Om z7 hd hp h0 hw hm hx h1 h2⟩
 .have G:=mod_lt (x:=c / 1440) (m:=3) H9;obtain⟨j,hj⟩:∃j:Nat,c / 1440 % 3=j:=⟨(c / 1440 % 3).toNat,N9⟩;exact⟨_,ah rr (dJ (am ((O "leave").trans S9) (am ((O "paper").trans S9) (aP ((O "like").trans S9) (fu (.tup [.tup [.int j,.str e]]) (a0 [.tup [.int j,.str e]] (aM (a0 [.int j,.str e] (aM (hj ▸ im (sd rr H9 H9) H9) (aM (A rr) rr)) (bd _ X9)) rr) (bd _ X9)) rr (ai (a0 [.str "like",.int day,.str p,.int m,iu x,.non,.int n4,.tup [.tup [.int j,.str e]]] (aM rr (aM rr (aM rr (aM rr (aM rr (aM rr (aM (o _ _) (aM rr rr)))))))) (bd _ X9)))))))),Su z7 hd hp hm hx l N9 h3⟩
 .exact⟨_,ah rr (dJ (am ((O "leave").trans S9) (am ((O "paper").trans S9) (am ((O "like").trans S9) (ai (a0 [.str "copy",.int day,.str p,.int n] (aM rr (aM rr (aM rr (aM (en _ _) rr)))) (bd _ X9))))))),K5 z7 hd hp hn "copy" (.inl rr)⟩
 .exact⟨_,ah rr (dJ (am ((O "leave").trans S9) (am ((O "paper").trans S9) (am ((O "like").trans S9) (ai (a0 [.str "call",.int day,.str p,.int n] (aM rr (aM rr (aM rr (aM (en _ _) rr)))) (bd _ X9))))))),K5 z7 hd hp hn "call" (.inr rr)⟩
end
noncomputable def K7:LS:=[("leave" : Str),"leave","leave","paper","leave","paper","copy","copy","like","call","paper","chosen"]
noncomputable def W8:LS:=[("heir" : Str),"death","lost","found","named","leave","paper","leave"]
def le5:∀f∈([0,0,0,1,5]:LN),f<=5:=H9
def w20:∀w∈K7++W8,w∈lu\/w = "chosen" \/ w = "heir" \/ w = "named" \/ (w = "death" \/ w = "lost" \/ w = "found"):=S9
def pH:∀w∈[("chosen" : Str),"heir","named","death","lost","found"],w∉lu:=S9
def Rg (zs:LS)(k:Nat)(r:D):Prop:=∃(h:Int)(kind:Str)(aj:LD)(day:Nat),r=row h kind aj/\(day:Int)<=h/\h<=9999/\(day:Int)<=9998/\Dw zs k day kind aj
section
variable {zs:LS}(z7:Nm7 zs) {aa:LD}(g:Yu zs aa) (hl:aa.length<=22) (k:Nat) (c:Int)
include z7 g hl
theorem Sx:∃r,wS [.lst aa,.int c,.lst (zs.map .str)]=some (r,false)/\Rg zs k r/\aG r=false:=by
 obtain⟨w,hw,A⟩:=dv (K7++W8) D.str (ρ:=[sL aa,sI c,sL (zs.map .str),lT ((K7++W8).map .str),none,none,none,none,none]) (fl:=aq 3) (fx:=aq 1) (b:=false) (a:=c) (m:=20) rr rr H9 H9;have hw:=w20 w (mem_of_mem_take hw);have I:=mod_lt (x:=c / 20) (m:=3) H9;obtain⟨day,B⟩:∃d:Nat,(aa.length:Int) / 2+c / 20 % 3=d:=⟨((aa.length:Int) / 2+c / 20 % 3).toNat,N9⟩;have hd:day<16:=N9
 have ed:f2 iU (f2 f6 (fA hV (fV 0 ay)) (fI 2)) (f2 jx (f2 f6 (aq 1) (fI 20)) (fI 3)) [sL aa,sI c,sL (zs.map .str),lT ((K7++W8).map .str),sS w,none,none,none,none]=sI day:=
  B ▸ aJ (.int ((aa.length:Int) / 2)) (.int (c / 20 % 3)) (sd (a0 [.lst aa] rr eY) H9 H9) (im (sd rr H9 H9) H9) rr
 obtain⟨l,f,C⟩:=dv ([0,0,0,1,5]:LN) (λm=>.int (m:Int)) (ρ:=[sL aa,sI c,sL (zs.map .str),lT ((K7++W8).map .str),sS w,sI day,none,none,none]) (fl:=fA fD (ak (fI 0) (ak (fI 0) (ak (fI 0) (ak (fI 1) (ak (fI 5) ay)))))) (fx:=f2 f6 (aq 1) (fI 60)) (b:=true) (a:=c / 60) (m:=5) (a0 [.int 0,.int 0,.int 0,.int 1,.int 5] rr (cO _ X9)) (sd rr H9 H9) H9 H9;have f:=le5 l (mem_of_mem_take f);let E:OB->DL.Env:=λa=>[sL aa,sI c,sL (zs.map .str),lT ((K7++W8).map .str),sS w,sI day,sI ((day:Int)+l),sI (c / 300),a];have dJ:∀ {T:FS}{d:D},T (E none)=some (.rt d false)->bN (dN 3 (fA fD (ak (fS "leave") (ak (fS "leave") (ak (fS "leave") (ak (fS "paper") (ak (fS "leave") (ak (fS "paper") (ak (fS "copy") (ak (fS "copy") (ak (fS "like") (ak (fS "call") (ak (fS "paper") (ak (fS "chosen") ay))))))))))))))
   (bN (dN 3 (f2 iU (aq 3) (fA fD (ak (fS "heir") (ak (fS "death") (ak (fS "lost") (ak (fS "found") (ak (fS "named") (ak (fS "leave") (ak (fS "paper") (ak (fS "leave") ay))))))))))) (bN (dN 4 _) (bN (dN 5 _) (bN (dN 6 (f2 iU (aq 5) _)) (bN (dN 7 (f2 f6 (aq 1) (fI 300))) T))))) [sL aa,sI c,sL (zs.map .str),none,none,none,none,none,none]=some (.rt d false):=λF=>
  bx (ds:=K7.map .str) (a0 (K7.map .str) rr (cO _ (by simp[K7]))) rr (bx (ds:=(K7++W8).map .str) (f8 (x:=.lst (K7.map .str)) (y:=.lst (W8.map .str)) (b1:=false) (b2:=true) rr (a0 (W8.map .str) rr (cO _ (by simp[W8]))) rr) rr
   (fu (.str w) A rr (fu (.int day) ed rr (fu (.int ((day:Int)+l)) (aJ (.int day) (.int l) rr C rr) rr (fu (.int (c / 300)) (sd rr H9 H9) rr F)))))
 have M:∀ {kind:Str}{aj:LD},Dw zs k day kind aj->decide (kind = "root")=false->∃r,r=row ((day:Int)+l) kind aj/\Rg zs k r/\aG r=false:=λ{kind aj} d hr=>⟨_,rr,⟨_,kind,aj,day,rr,N9,N9,N9,d⟩,hr⟩;have ti:bJ (f2 Fw (aq 4) (fA dn (ak (fS "leave") (ak (fS "paper") (ak (fS "like") (ak (fS "copy") (ak (fS "call") ay))))))) (E none)=some (decide (w∈lu)):=bB (aJ (.str w) (.tup (lu.map .str)) rr (a0 (lu.map .str) rr (bd _ (by simp[lu]))) (iM w lu));have O:∀v,bJ (f2 ko (aq 4) (fS v)) (E none)=some (decide (w=v)):=λv=>bB (aJ (.str w) (.str v) rr rr (Pu _ _));obtain⟨q,hq,eq⟩:=dv zs D.str (ρ:=E none) (fl:=aq 2) (fx:=f2 f6 (aq 7) (fI 40)) (b:=false) (a:=c / 300 / 40) (m:=5) rr (sd rr H9 H9) H9 (by rw[z7.len];decide);have h:q∈zs:=mem_of_mem_take hq;obtain⟨j,h5,t⟩:=nF z7 5 H9;obtain⟨p,n,u⟩:=Aq z7 g N9 (c / 300);have hp:p∈zs:=mem_of_mem_take n;rcases hw with hw|rfl|rfl|rfl|hw
 .obtain⟨aj,es,G⟩:=G6 z7 g hl k day hd (c / 300) w hw;have hr:decide (w = "root")=false:=(by decide +kernel:∀w∈lu,decide (w = "root")=false) w hw;obtain⟨r,rfl,h1,h2⟩:=M G hr;rw[mf hw]at ti;exact⟨_,ah rr (dJ (aP ti (ai (a0 [.int ((day:Int)+l),.tup (.str w::aj)] (aM rr (aM (a0 [.lst aa,.str w,.int day,.int (c / 300),.lst (zs.map .str)] rr es) rr)) (bd _ X9))))),h1,h2⟩
 .obtain⟨s,hs⟩:∃s:Nat,(day:Int)+c / 300 / 200 % 3=s:=⟨((day:Int)+c / 300 / 200 % 3).toNat,N9⟩;have z:day<=s/\s<18:=N9
  obtain⟨r,rfl,h1,h2⟩:=M (K6 z7 hd hp h h5 z.1 z.2) S9;rw[oC (pH _ S9)]at ti;exact⟨_,ah rr (dJ (am ti (aP ((O "chosen").trans S9) (fu (.str p) (a0 [.lst aa,.int (c / 300),.lst (zs.map .str)] rr u) rr (ai (a0 [.int ((day:Int)+l),.tup [.str "chosen",.int day,.str p,.str j,.str q,.int s]] (aM rr (aM (a0 [.str "chosen",.int day,.str p,.str j,.str q,.int s] (aM rr (aM rr (aM rr (aM (t rr) (aM eq (aM (hs ▸ aJ (.int day) (.int (c / 300 / 200 % 3)) rr (im (sd rr H9 H9) H9) rr) rr)))))) (bd _ X9)) rr)) (bd _ X9))))))),h1,h2⟩
 .obtain⟨r,rfl,h1,h2⟩:=M (Sv z7 hd hp h h5) S9;rw[oC (pH _ S9)]at ti;exact⟨_,ah rr (dJ (am ti (am ((O "chosen").trans S9) (aP ((O "heir").trans S9) (ai (a0 [.int ((day:Int)+l),.tup [.str "heir",.int day,.str p,.str j,.str q]] (aM rr (aM (a0 [.str "heir",.int day,.str p,.str j,.str q] (aM rr (aM rr (aM (a0 [.lst aa,.int (c / 300),.lst (zs.map .str)] rr u) (aM (t rr) (aM eq rr))))) (bd _ X9)) rr)) (bd _ X9))))))),h1,h2⟩
 .obtain⟨o,ho,H⟩:∃o∈zs,f2 dI (aq 2) (f2 iU (fI 5) (f2 jx (f2 f6 (aq 7) (fI 5)) (fI 2))) (E none)=sS o:=by
   have m2:=mod_lt (x:=c / 300 / 5) (m:=2) H9;obtain⟨o,ho,e⟩:=Sf (zs:=zs) (i:=5+c / 300 / 5 % 2) N9 (by rw[z7.len];lia);exact⟨o,ho,aJ (.lst (zs.map .str)) (.int (5+c / 300 / 5 % 2)) rr (aJ (.int 5) (.int (c / 300 / 5 % 2)) rr (im (sd rr H9 H9) H9) rr) e⟩
  obtain⟨r,rfl,h1,h2⟩:=M (EG z7 hd h hq ho) S9;rw[oC (pH _ S9)]at ti;exact⟨_,ah rr (dJ (am ti (am ((O "chosen").trans S9) (am ((O "heir").trans S9) (aP ((O "named").trans S9) (ai (a0 [.int ((day:Int)+l),.tup [.str "named",.int day,.str o,.str q]] (aM rr (aM (a0 [.str "named",.int day,.str o,.str q] (aM rr (aM rr (aM H (aM eq rr)))) (bd _ X9)) rr)) (bd _ X9)))))))),h1,h2⟩
 .have hn:∀v∈[("chosen" : Str),"heir","named"],decide (w=v)=false:=by rcases hw with rfl|rfl|rfl<;>decide +kernel
  obtain⟨r,rfl,h1,h2⟩:=M (Oi z7 hd h w hw) (by rcases hw with rfl|rfl|rfl<;>decide +kernel)
  rw[oC (pH w (by grind))]at ti;exact⟨_,ah rr (dJ (am ti (am ((O "chosen").trans (by rw[hn _ X9])) (am ((O "heir").trans (by rw[hn _ X9])) (am ((O "named").trans (by rw[hn _ X9])) (ai (a0 [.int ((day:Int)+l),.tup [.str w,.int day,.str q]] (aM rr (aM (a0 [.str w,.int day,.str q] (aM rr (aM rr (aM eq rr))) (bd _ X9)) rr)) (bd _ X9)))))))),h1,h2⟩
end
structure GR (zs:List Str)(aa:List D):Prop where
 at_:∀(j:Nat) r,aa[j]? = some r->Rg zs j r
 off:(nu aa).Nodup
 gv:∃r∈aa,iP r=true
 rt:∃r∈aa,aG r=true
def GR.snoc {zs:LS}{aa:LD}(g:GR zs aa){r:D}(M:Rg zs aa.length r)(hr:(nu (aa++[r])).Nodup):GR zs (aa++[r]):=by
 refine⟨λj q h=>?_,hr,g.gv.imp λq h=>⟨mem_append_left _ h.1,h.2⟩,g.rt.imp λq h=>⟨mem_append_left _ h.1,h.2⟩⟩;by_cases hj:j<aa.length
 .rw[getElem?_append_left hj]at h;exact g.at_ j q h
 .rw[getElem?_append_right N9]at h;obtain⟨h1,h2⟩:=vV h;have:j=aa.length:=by rw[length_singleton]at h1;lia
  subst this;simp at h2;subst h2;exact M
def GR.mem {zs:LS}{aa:LD}(g:GR zs aa){r:D}(h:r∈aa):∃k,Rg zs k r:=by
 obtain⟨j,hj⟩:=mem_iff_getElem?.mp h;exact⟨j,g.at_ j r hj⟩
def Rg.k {zs:LS}{k:Nat}{r:D}(g:Rg zs k r):bv r:=by
 obtain⟨h,kind,aj,day,rfl,_,_,_,d⟩:=g;exact⟨h,kind,aj,rr,d.dd⟩
def GR.flat {zs:LS}{aa:LD}(g:GR zs aa):aX aa=true:=b8 λd hd=>by
 obtain⟨j,M⟩:=g.mem hd;exact M.k.flat
def GR.gvs {zs:LS}{aa:LD}(g:GR zs aa):Yu zs aa:=⟨λr hr=>by
 obtain⟨j,h,kind,aj,day,rfl,_,_,_,d⟩:=g.mem hr;exact⟨h,kind,aj,rr,d.p⟩,g.gv⟩
def ip4:iz ("rule" : Str)=false:=S9
def RL:LS:=[("open" : Str),"first","last"]
def VV:∀r∈RL,PV "rule" (.str r)=true:=S9
def Pz:∀m∈[7,255,7],PV "matters" (.int ((m:Nat):Int))=true/\m∈MR:=S9
def K8 {zs:LS}(M:Nm7 zs)(k:Nat):off zs k∈zs:=by
 have:(if k=0 then 5 else 6)<zs.length:=by rw[M.len];split<;>decide
 simp_all[off]
def sj {zs:LS}(M:Nm7 zs)(j:Nat)(hj:j<7){ρ:DL.Env}{i:Nat}(h:ρ[i]? = some (sL (zs.map .str))\/ρ[i]? = some (lT (zs.map .str))):ft i (j:Int) ρ=sS (zs.getD j ""):=by
 have hl:j<zs.length:=by rw[M.len];exact hj
 have:(zs.map D.str)[j]? = some (.str (zs.getD j "")):=by simp_all
 rcases h with h|h<;>simp[h,bi this]
def K9:decide (("named" : Str)∈[("leave" : Str),"named"])=true:=S9
def P0 (h:Int)(l:LD):aG (row h "root" l)=true:=mf rr
def VW (h:Int)(l:LD):aG (row h "named" l)=false:=O9
def KA {zs:LS}(M:Nm7 zs){k:Nat}(hk:k=0\/k=2){m f:Nat}(hm:m∈[7,255,7])(hf:f<6){rl:Str}(hr:rl∈RL):Dw zs k 0 "root" [.str (off zs k),.int m,.int f,.str rl]:=
 ⟨.root _ _ m (Pz m hm).2 _,λh _=>⟨⟨["office","matters","further","rule"],[],bY,rr,kW (aA (xA (M.nm _ (K8 M k))) (aA (Pz m hm).1 (aA (K2 ⟨f,hf⟩) (aA (VV _ hr) rr)))),by simp[BM,ZF,ip2,ip3,ip4],H9,X9⟩,X9,λd hd=>by
  simp [mem_cons,not_mem_nil,or_false]at hd;rcases hd with rfl|rfl|rfl|rfl<;>exact⟨rr,rr⟩,.inl ⟨rr,hk,_,rr⟩⟩,Ss S9,λz=>absurd rr z⟩
def VX {zs:LS}(M:Nm7 zs){m:Nat}(hm:m∈[7,255,7]){rl:Str}(hr:rl∈RL){p:Str}(hp:p∈zs.take 5):GR zs [row 0 "root" [.str (off zs 0),.int m,.int (5:Nat),.str rl],row 0 "named" [.int (0:Nat),.str (off zs 0),.str p]]:=by
 refine⟨λj r h=>?_,by simp[nu,P0,VW],⟨_,mZ _ (mX ..),K9⟩,_,mX ..,P0 _ _⟩;match j,h with
 |0,h=>cases h;exact⟨0,_,_,0,rr,H9,H9,H9,KA M (.inl rr) hm H9 hr⟩
 |1,h=>cases h;exact⟨0,_,_,0,rr,H9,H9,H9,EG M H9 (mem_of_mem_take hp) hp (K8 M 0)⟩
def ZI {zs:LS}(M:Nm7 zs){m:Nat}(hm:m∈[7,255,7]){rl:Str}(hr:rl∈RL){p:Str}(hp:p∈zs.take 5):GR zs [row 0 "root" [.str (off zs 0),.int m,.int (5:Nat),.str rl],row 0 "named" [.int (0:Nat),.str (off zs 0),.str p],row 1 "root" [.str (off zs 2),.int (7:Nat),.int (2:Nat),.str "open"]]:=by
 refine(VX M hm hr hp).snoc ⟨1,_,_,0,rr,H9,H9,H9,KA M (.inr rr) H9 H9 S9⟩ ?_;have h:=Kr M;have:nu ([row 0 "root" [.str (off zs 0),.int m,.int (5:Nat),.str rl],row 0 "named" [.int (0:Nat),.str (off zs 0),.str p]]++[row 1 "root" [.str (off zs 2),.int (7:Nat),.int (2:Nat),.str "open"]])=[off zs 0,off zs 2]:=by
  rfl
 simp_all
def Oo {ns:LI}(hf:RJ ns){zs:LS}(a:Nm7 zs){aa:LD}(g:GR zs aa)(hl:aa.length<=22)(M:OB){i:Nat}(hi:i<=90):∃r,ur [sL (ns.map .int),M,lT (zs.map .str),lT aa,sI i]=some (.nx [sL (ns.map .int),M,lT (zs.map .str),lT (aa++[r]),sI i])/\GR zs (aa++[r]):=by
 obtain⟨c,b⟩:=pG hf (3+i) N9;obtain⟨r,er,O,hr⟩:=Sx a g.gvs hl _ _;have hn:(nu (aa++[r])).Nodup:=by rw[Gm,hr,if_neg H9,uQ];exact g.off
 refine⟨r,jc rr (a0 _ (aM rr (aM (aJ _ _ (a0 _ (aM rr (aM (aJ _ _ rr rr rr) rr)) b) (aJ _ _ rr rr rr) (An _ H9)) (aM rr rr))) er) O.k.flat (b7 N9),g.snoc O hn⟩
def Op {ns:LI}(F:ns.length<=63)(hf:RJ ns):∃zs aa,ra [.lst (ns.map .int)]=lT aa/\Nm7 zs/\GR zs aa/\aa.length<=23:=by
 refine cX λK W=>?_;obtain⟨c,y⟩:=pG hf 1 H9;obtain⟨w,k⟩:=pG hf 0 H9;obtain⟨zs,z,M⟩:=K1 w;obtain⟨m,hm,A⟩:=dv ([7,255,7]:LN) (λm=>.int (m:Int)) (ρ:=[sL (ns.map .int),sI c,lT (zs.map .str),none,none]) (fl:=fA fD (ak (fI 7) (ak (fI 255) (ak (fI 7) ay)))) (fx:=aq 1) (b:=true) (a:=c) (m:=3) (a0 [.int 7,.int 255,.int 7] rr (cO _ X9)) rr H9 H9;obtain⟨rl,hr,er⟩:=dv RL D.str (ρ:=[sL (ns.map .int),sI c,lT (zs.map .str),none,none]) (fl:=fA fD (ak (fS "open") (ak (fS "first") (ak (fS "last") ay)))) (fx:=f2 f6 (aq 1) (fI 3)) (b:=true) (a:=c / 3) (m:=3) (a0 (RL.map .str) rr (cO _ (by simp[RL]))) (sd rr H9 H9) H9 H9;apply W;clear W;have hm:=mem_of_mem_take hm;have hr:=mem_of_mem_take hr;have hp:zs.getD 0 "" ∈ zs.take 5:=by
  have h0:0<zs.length:=by rw[M.len];decide
  rw[vF,vU h0];exact List.mem_take_iff_getElem.mpr ⟨0,by rw[M.len];decide,rr⟩
 have O:∀ρ:DL.Env,ρ[2]? = some (lT (zs.map .str))->ft 2 5 ρ=sS (off zs 0):=λρ h=>sj M 5 H9 (.inr h);have l:∀ρ:DL.Env,ρ[2]? = some (lT (zs.map .str))->ft 2 6 ρ=sS (off zs 2):=λρ h=>sj M 6 H9 (.inr h);have o:∀ρ:DL.Env,ρ[2]? = some (lT (zs.map .str))->ft 2 0 ρ=sS (zs.getD 0 ""):=λρ h=>sj M 0 H9 (.inr h);obtain⟨R,hR⟩:∃R,R=row 0 "root" [.str (off zs 0),.int m,.int (5:Nat),.str rl]:=⟨_,rr⟩;obtain⟨N,f⟩:∃N,N=row 0 "named" [.int (0:Nat),.str (off zs 0),.str (zs.getD 0 "")]:=⟨_,rr⟩;have B:aR R=true:=by subst hR;rfl
 have C:aR N=true:=by subst f;rfl
 obtain⟨aa,E,G,e2⟩:∃aa,GR zs aa/\aa.length<=3/\∀ {T:FS}{res:Option Res},T [sL (ns.map .int),sI c,lT (zs.map .str),lT aa,none]=res ->
   bN (GO (bJ (f2 ko (f2 jx (f2 f6 (aq 1) (fI 9)) (fI 2)) (fI 1))) (xW 3 (fA dn (ak (fI 1) (ak (fA dn (ak (fS "root") (ak (ft 2 6) (ak (fI 7) (ak (fI 2) (ak (fS "open") ay)))))) ay)))) xU) T [sL (ns.map .int),sI c,lT (zs.map .str),lT [R,N],none]=res:=by
  have t:bJ (f2 ko (f2 jx (f2 f6 (aq 1) (fI 9)) (fI 2)) (fI 1)) [sL (ns.map .int),sI c,lT (zs.map .str),lT [R,N],none]=some (decide (c / 9 % 2=1)):=bB (aJ (.int (c / 9 % 2)) (.int 1) (im (sd rr H9 H9) H9) rr X9);by_cases h:c / 9 % 2=1
  .rw[mf h]at t;refine⟨[R,N,row 1 "root" [.str (off zs 2),.int (7:Nat),.int (2:Nat),.str "open"]],by subst hR;subst f;exact ZI M hm hr hp,X9,λp=>cm (mM t (jc (d:=row 1 "root" [.str (off zs 2),.int (7:Nat),.int (2:Nat),.str "open"]) (b:=false) rr (a0 [.int 1,.tup [.str "root",.str (off zs 2),.int 7,.int 2,.str "open"]] (aM rr (aM (a0 [.str "root",.str (off zs 2),.int 7,.int 2,.str "open"] (aM rr (aM (l _ rr) rr)) (bd _ X9)) rr)) (bd _ X9)) rr (b7 X9))) p⟩
  .rw[oC h]at t;exact⟨[R,N],by subst hR;subst f;exact VX M hm hr hp,X9,λp=>cm (gM t rr) p⟩
 obtain⟨n,hn,en⟩:∃n:Nat,n<=20/\f2 dI _ (f2 jx (f2 f6 (aq 1) (fI 18)) (fI 2)) [sL (ns.map .int),sI c,lT (zs.map .str),lT aa,none]=sI n:=by
  obtain⟨q,hq⟩:∃q:Nat,(if 5+(ns.length:Int) / 3<20 then 5+(ns.length:Int) / 3 else 20)=q:=⟨(if 5+(ns.length:Int) / 3<20 then 5+(ns.length:Int) / 3 else 20).toNat,by split<;>lia⟩
  have s:q<=20:=by split at hq<;>lia
  obtain⟨x,hx,ex⟩:=dv ([q,20]:LN) (λm=>.int (m:Int)) (ρ:=[sL (ns.map .int),sI c,lT (zs.map .str),lT aa,none]) (fl:=fA fD (ak (fA Vf (ak (fI 20) (ak (f2 iU (fI 5) (f2 f6 (fA hV (fV 0 ay)) (fI 3))) ay))) (ak (fI 20) ay))) (fx:=f2 f6 (aq 1) (fI 18)) (b:=true) (a:=c / 18) (m:=2)
   (a0 [.int q,.int 20] (aM (a0 [.int 20,.int (5+(ns.length:Int) / 3)] (aM rr (aM (aJ (.int 5) (.int ((ns.length:Int) / 3)) rr (sd (a0 [.lst (ns.map .int)] rr (by rw[eY,vI])) H9 H9) rr) rr)) (by rw[<-hq];rfl)) rr) (cO _ X9)) (sd rr H9 H9) H9 X9
  have hx:=mem_of_mem_take hx;refine⟨x,?_,ex⟩;rcases vP hx with rfl|hx
  .exact s
  .grind
 obtain⟨ρ',e,rs,u,rfl,v,hs⟩:=qQ (tg:=fz 4) (g:=ur) n (λi ρ=>∃(rs:LD)(u:OB),ρ=[sL (ns.map .int),sI c,lT (zs.map .str),lT rs,u]/\GR zs rs/\rs.length<=3+i)
  [sL (ns.map .int),sI c,lT (zs.map .str),lT aa,none] ⟨aa,none,rr,E,N9⟩ (by
   rintro i ρ hi ⟨rs,u,rfl,v,hs⟩;obtain⟨r,e,g'⟩:=Oo hf M v N9 (sI c) (i:=i) N9;exact⟨_,_,rr,.inl e,rs++[r],_,rr,g',by rw[uZ,length_singleton];lia⟩)
 refine⟨zs,rs,ah rr (fu (.int c) (a0 [.lst (ns.map .int),.int 1] rr y) rr (bx (ds:=zs.map .str) (a0 [.int w] (aM (a0 [.lst (ns.map .int),.int 0] rr k) rr) z) (cN _) (bx (ds:=[R]) ?_ (by simp[B]) (cm (jc (ds:=[R]) (d:=N) (b:=false) rr ?_ C (b7 X9)) (e2 (cm (gb (eJ (j:=n) (b:=false) en N9) e) (kI rr))))))),M,v,N9⟩
 .refine a0 [R] (aM (a0 [.int 0,.tup [.str "root",.str (off zs 0),.int m,.int 5,.str rl]] (aM rr (aM (a0 [.str "root",.str (off zs 0),.int m,.int 5,.str rl] (aM rr (aM (O _ rr) (aM A (aM rr (aM er rr))))) (bd _ X9)) rr)) ((bd _ X9).trans (by subst hR;rfl))) rr) (cO _ X9)
 .exact a0 [.int 0,.tup [.str "named",.int 0,.str (off zs 0),.str (zs.getD 0 "")]] (aM rr (aM (a0 [.str "named",.int 0,.str (off zs 0),.str (zs.getD 0 "")] (aM rr (aM rr (aM (O _ rr) (aM (o _ rr) rr)))) (bd _ X9)) rr)) ((bd _ X9).trans (by subst f;rfl))
theorem Ar {p:Nat×List Bs}(hb:∀S,p.2.any (cu S)=true):∀(l:List (Nat×List Bs))(S:LN),p∈l->p.1∈l.foldl cr S
 |q::l,S,h=>by
  rcases vP h with rfl|h
  .exact pF l _ (by unfold cr;rw[if_pos (hb S)];simp)
  .exact Ar hb l _ h
section
variable {aa:LD}{ae:Int}
def KE (K:KL):(bV K).Pairwise λa b=>bF b a=false:=(eG _ _).imp λ{a b} h=>by
 have:=p5 _ _ _ (wV b a);rw[oC (show ¬bZ _<bZ _ from h)]at this;exact this
def Oq {day:Int}{n m:Nat}{r q:D}(hr:(r,n)∈ag aa ae)(c:kindOf r∈aZ)(hf:zR aa ae day (r,n)=true)(hS:n∉aS aa ae day)(hb:((none,(m:Int)):Bs)∈cw aa ae (r,n))(hq:aa[m]? = some q)(d:bF (q,m) (r,n)=true):m∉aS aa ae day:=λhm=>by
 have g:(r,n)∈bV (ag aa ae):=(aF _ _).mem_iff.mpr (mem_filter.mpr ⟨hr,by rw[nB c];rfl⟩);have h:(r,n)∈lb aa ae day (bV (ag aa ae)):=mem_filter.mpr ⟨g,by rw[mf c,hf];rfl⟩;obtain⟨l1,l2,a⟩:=List.append_of_mem h;have M:=(KE (ag aa ae)).sublist (filter_sublist (p:=λx=>decide (kindOf x.1∈aZ) && zR aa ae day x));rw[show(bV (ag aa ae)).filter _=l1++(r,n)::l2 from a]at M;have O:=(pairwise_cons.mp (List.pairwise_append.mp M).2.1).1;let f:=λx=>(x.2,cw aa ae x);have e:aS aa ae day=(l2.map f).foldl cr (cr ((l1.map f).foldl cr []) (f (r,n))):=by
  unfold aS f9;rw[a,uW,List.foldl_append];rfl
 have b:∀x∈l1++(r,n)::l2,aa[x.2]? = some x.1:=λx hx=>by
  rw[<-a]at hx;exact aB (vN ((aF _ _).mem_iff.mp (vN hx).1)).1
 have i:m∈(l1.map f).foldl cr []:=by
  rw[e]at hm;rcases kU _ _ _ hm with z|z
  .rcases zV z with z|z
   .exact z
   .have j:m=n:=z;subst j;exact absurd (e ▸ hm) hS
  .obtain⟨p,hp,rfl⟩:=vO z;obtain⟨x,hx,rfl⟩:=vO hp;have h1:=b x (mY _ (mZ _ hx));have h2:aa[x.2]? = some q:=hq;rw[h1]at h2;have h3:=O x hx;rw[show x=(q,x.2) by rw[<-vK h2]]at h3;rw[show bF (q,x.2) (r,n)=true from d]at h3;cases h3
 have k:n∈cr ((l1.map f).foldl cr []) (f (r,n)):=by
  unfold cr;rw[if_pos (any_eq_true.mpr ⟨_,hb,by
   unfold cu;rw[Bool.or_eq_true];exact .inr (any_eq_true.mpr ⟨m,i,mf rr⟩)⟩)]
  exact mY _ (mem_singleton.mpr rr)
 exact hS (e ▸ pF _ _ k)
def G7 {day:Int}{n:Nat}{r:D}(hr:(r,n)∈ag aa ae)(O:kindOf r∈aZ)(hf:zR aa ae day (r,n)=true)(hS:n∉aS aa ae day){b:Bs}(hb:b∈cw aa ae (r,n)):b.1=none:=by
 cases e:b.1 with
 |none=>rfl
 |some o=>
  refine absurd ?_ hS;have M:(r,n)∈bV _:=(aF _ _).mem_iff.mpr (mem_filter.mpr ⟨hr,by rw[nB O];rfl⟩);refine Ar (λS=>any_eq_true.mpr ⟨b,hb,by unfold cu;rw[e];rfl⟩) _ _ (uS ⟨(r,n),mem_filter.mpr ⟨M,by rw[mf O,hf];rfl⟩,rr⟩)
end
section
variable {aa:LD}{ae:Int}
def xB {r:D}{n:Nat}{b:Bs}(M:kindOf r ≠ "copy")(h:b∈cw aa ae (r,n)):
  (∃v∈bf (ag aa ae),rN (aQ (ag aa ae)) r v=true/\b=toB (aQ (ag aa ae)) r v) \/
  (∃x∈ag aa ae,kindOf x.1 = "leave"/\ao 2 x.1=cH r/\xp r n x=true/\b=(none,(x.2:Int))):=by
 unfold cw nA at h;rw[if_neg M]at h;rcases mem_append.mp ((aF _ _).mem_iff.mp h)with h|h
 .obtain⟨v,hv,rfl⟩:=vO h;exact .inl ⟨v,(vN hv).1,(vN hv).2,rr⟩
 .obtain⟨x,hx,rfl⟩:=vO h;obtain⟨hx,hl⟩:=vN hx;obtain⟨hx,hp⟩:=vN hx;obtain⟨hx,hi⟩:=vN hx;exact .inr ⟨x,hx,xG hi,xG hp,hl,rr⟩
def oB {r:D}{n:Nat}{b:Bs}(M:kindOf r = "copy")(h:b∈cw aa ae (r,n)):b=(none,dE 2 r)/\nw aa ae r n (dE 2 r).toNat=true:=by
 unfold cw nA at h;rw[if_pos M]at h;split at h
 .exact⟨uT h,‹_›⟩
 .cases h
def EH {day:Int}{z:Int}(h:nD (gK aa ae day) z=true):∃(n:Nat)(r:D),(n:Int)=z/\aa[n]? = some r/\(r,n)∈ag aa ae/\kindOf r∈aZ/\zR aa ae day (r,n)=true:=by
 obtain⟨p,hp,e⟩:=any_eq_true.mp h;obtain⟨x,hx,rfl⟩:=vO hp;obtain⟨h1,h2⟩:=vN hx;rw[vC]at h2;have h3:=(vN ((aF _ _).mem_iff.mp h1)).1;exact⟨x.2,x.1,xG e,aB h3,h3,xG h2.1,h2.2⟩
theorem As (g:∀r∈aa,bv r)(day:Int):∀(r:LI)(b:Int),(∃n∈aS aa ae day,(n:Int)=b)->(∀z∈r,nD (gK aa ae day) z=true)->(((b::r).zip r).all λp=>Ps (nI aa ae) p.1 p.2)=true->∀z∈r,∃n∈aS aa ae day,(n:Int)=z
 |[],_,_,_,_,z,hz=>by cases hz
 |c::r,b,⟨m,hm,l⟩,hf,hl,z,hz=>by
  have M:(Ps _ b c && ((c::r).zip r).all _)=true:=hl;rw[vC]at M;have hc:∃n∈aS aa ae day,(n:Int)=c:=by
   obtain⟨n,q,en,hq,hh,d,f⟩:=EH (hf c mX);refine⟨n,Classical.byContradiction λhS=>?_,en⟩;obtain⟨x,hx,O⟩:=any_eq_true.mp M.1;rw[vC]at O;have hn:c.toNat=n:=N9
   have hx:=hn ▸ hx;have hx:=by unfold nI at hx;rw[hq]at hx;exact hx
   have a:x.1=none:=by cases e:x.1 with
    |none=>rfl
    |some o=>rw[e]at O;exact absurd O.1 X9
   obtain⟨h,s,i,j,_,k⟩:=lZ g hq hx a;have:h=m:=N9
   subst this;exact Oq hh d f hS (by rw[<-i,<-a];exact hx) j k hm
  rcases vP hz with rfl|hz
  .exact hc
  .exact As g _ r c hc (λz hz=>hf z (mZ _ hz)) M.2 z hz
def KG (g:∀r∈aa,bv r)(day:Int){zs:LI}(h:Pt (gK aa ae day) (nI aa ae) zs=true):∀z∈zs.drop 1,∃n∈aS aa ae day,(n:Int)=z:=by
 rcases zs with _|⟨a,_|⟨b,r⟩⟩
 .cases h
 .cases h
 .have h':((b::r).all _ && (Pr _ a b && ((b::r).zip r).all _))=true:=h;rw[vC,vC]at h';obtain⟨h1,h2,h3⟩:=h';have hf:=uR h1;have hb:∃n∈aS aa ae day,(n:Int)=b:=by
   obtain⟨n,q,en,hq,hh,O,c⟩:=EH (hf b mX);refine⟨n,Classical.byContradiction λhS=>?_,en⟩;obtain⟨x,hx,M⟩:=any_eq_true.mp h2;rw[vC]at M;have hn:b.toNat=n:=N9
   have hx:=hn ▸ hx;have hx:=by unfold nI at hx;rw[hq]at hx;exact hx
   rw[G7 hh O c hS hx]at M;exact absurd M.1 X9
  intro z hz;rcases vP hz with rfl|hz
  .exact hb
  .exact As g _ r b hb (λz hz=>hf z (mZ _ hz)) h3 z hz
end
def Ot (p:Prop)[Decidable p]:R0 [.bl (decide p)]=sI (if p then 1 else 0):=by show some _=_;simp [decide_eq_true_eq]
def wix (k:Str)(aj:LD)(j:Nat):f2 iU (fI j) (fA R0 (ak (f2 ko (ft 0 0) (fS "leave")) ay)) [sT (.str k::aj)]=sI ((j+if k = "leave" then 1 else 0:Nat):Int):=by
 refine aJ _ _ rr (a0 _ (aM (aJ (.str k) _ (by simp[sv]) rr (Pu _ _)) rr) (Ot _)) ?_;split<;>rfl
def P1 {k:Str}{aj:LD}(d:Dd k aj)(h:k∈bR)(a:Int):gY [.tup (.str k::aj)]=sI (fE (row a k aj)):=by
 have m:=(JX (a:=a) d h).2.2;refine ah rr (ai (aJ _ _ rr (wix k _ 3) ?_));rw[DL.pQ N9 (by exact m.2),Int.toNat_natCast,m.1]
def VY {k:Str}{aj:LD}(d:Dd k aj)(h:k∈bR)(a:Int):jU [.tup (.str k::aj)]=sF (iu (eU (row a k aj))):=by
 have m:=(Ey (a:=a) d h).2;refine ah rr (ai (aJ _ _ rr (wix k _ 4) ?_));rw[DL.pQ N9 (by exact m.2),Int.toNat_natCast,m.1]
def VZ (a b c d:Int):YJ (.tup [.int a,.int b]) (.tup [.int c,.int d])=sO (decide (c<a\/(c=a/\d<b))):=by
 show(aU _ _).map _=_;rw[NA];rfl
def Au:("copy" : Str)∉bR:=S9
def Ou:("leave" : Str)∉fK:=S9
def KH {k:Str}(h:k∈fK):c9 k=true:=by
 rw[lS];grind [fK,uu]
section
variable {aa:LD}{m n:Nat}{q r:D}(g:∀r∈aa,bv r) (hq:aa[m]? = some q) (hr:aa[n]? = some r)
include g hq hr
theorem G8 {ae:Int}(M:kindOf r = "copy")(hm:dE 2 r=(m:Int))(h:nw aa ae r n m=true):iL [.lst aa,.int m,.int n]=sO true:=by
 obtain⟨a,d,b,t,er⟩:=lY (g r (vL hr)) M;unfold nw at h;rw[hq]at h;rw[vC,vC]at h;obtain⟨⟨_,h2⟩,h3⟩:=h;subst er;obtain⟨c,k,aj,rfl,dd⟩:=g q (vL hq);have hk:=xG (show decide _=true from h2);obtain⟨d',b',aj,rfl⟩:=pE dd (KH hk);have h3:decide (d'<d\/(d'=d/\(m:Int)<n))=true:=h3;have O:k ≠ "leave":=λe=>Ou (e ▸ hk);refine ah rr (fu (.tup (.str k::.int d'::.str b'::aj)) (by simp[bi hq,row,sV]) (by have:=dd.flat;simpa using this) (fu (.tup [.str "copy",.int d,.str b,.int t]) (by simp[bi hr,row,sV]) rr (am (bB (aJ (.tup [.int d',.int m]) (.tup [.int d,.int n]) (a0 _ (aM (by simp[sV]) rr) (bd _ X9)) (a0 _ (aM (by simp[sV]) rr) (bd _ X9)) ?_)) (aP (bB (by simp[sv])) (ai ((bP (p:=true) (b1:=false) ?_ λ_=>?_)))))))
 .rw[VZ,oC];lia
 .rw[<-hm];exact aJ _ (.int t) rr rr X9
 .exact aJ (.str k) _ (by simp[sv]) rr (by simp[O])
theorem BS (M:kindOf r∈bR)(l:kindOf q = "leave")(hb:ao 2 q=cH r)(h:xp r n (q,m)=true):iL [.lst aa,.int m,.int n]=sO true:=by
 obtain⟨A,d',b',O,o,c,f,rfl,_,e1,e2,t⟩:=fw (g q (vL hq)) l;obtain⟨a,k,aj,rfl,dd⟩:=g r (vL hr);have M:k∈bR:=M;obtain⟨d,b,rs,rfl⟩:=pE dd (eQ (.inl (jq M)));unfold xp at h;rw[vC,vC,vC]at h;obtain⟨h1,⟨h2,h3⟩,h4⟩:=h;rw[e2]at h2 h3;unfold kg at h4;rw[vC,e1,t]at h4;have h1:decide (d'<d\/(d'=d/\(m:Int)<n))=true:=h1;have hb:O=b:=hb;subst hb;have v:k ≠ "copy":=λe=>Au (e ▸ M);have w:=P1 dd M a;have ws:=VY dd M a;have hf:=dd.flat;let L:D:=.tup [.str "leave",.int d',.str b',.str O,.int o,iu c,.int f];let R:D:=.tup (.str k::.int d::.str O::rs);let E:DL.Env:=[sL aa,sI m,sI n,sF L,sF R];have i:ft 4 0 E=sS k:=by simp[E,R,sv]
 have i1:ft 4 1 E=sI d:=by simp[E,R,sV]
 have i2:ft 4 2 E=sS O:=by simp[E,R,Z6]
 have j:ft 3 5 E=sF (iu c):=rr;refine ah rr (fu L (by simp[bi hq,row,sV,L]) (by rcases c with⟨s,_|u⟩<;>rfl) (fu R (by simp[bi hr,row,sV,R]) (by simpa [R]using hf) ?_))
 refine(show bN _ _ E=_ from am (bB (aJ (.tup [.int d',.int m]) (.tup [.int d,.int n]) (a0 _ (aM rr rr) (bd _ X9)) (a0 _ (aM i1 rr) (bd _ X9)) ?_)) ?_)
 .rw[VZ,oC];have:=xG h1;lia
 refine am (bB (aJ (.str k) (.str "copy") i rr (by simp[v]))) ?_;refine am (bc (p:=false) (q:=false) (bB (aJ (.str "leave") (.str "leave") rr rr X9)) λ_=>bc (p:=false) (q:=false) (bB (aJ (.str O) (.str O) rr i2 X9)) λ_=>aK (p:=true) (bB (a0 [.int d,iu c] (aM i1 (aM j rr)) ((xa _ _ _).trans ?_)))) ?_
 .exact congrArg (λb=>sO b) h2
 refine am (bc (p:=false) (q:=false) (aK (p:=true) (bB (a0 _ (aM rr (aM (a0 _ rr w) rr)) ((kT _ _).trans ?_)))) λ_=>aK (p:=true) (bB (a0 _ (aM (a0 _ rr ws) (aM j rr)) ((Kc _ _).trans ?_)))) ?_
 .exact congrArg (λb=>sO b) h4.1
 .exact congrArg (λb=>sO b) h3
 refine ai ((qT (p:=decide (k ≠ "leave")) (q:=true) (b1:=false) (aJ (.str k) (.str "leave") i rr X9) λh=>?_).trans X9);have x:k = "leave":=by simpa using h
 subst x;refine cX λG K=>?_;obtain⟨B,d2,b2,p2,m2,y,f2,er,_,_,_,z⟩:=fw (g _ (vL hr)) rr;apply K;have er:rs=[.str p2,.int m2,iu y,.int f2]:=by
  have:=er;simp only[row,D.tup.injEq,List.cons.injEq,D.int.injEq,D.str.injEq,true_and,and_true]at this;exact this.2.2.2
 subst er;rw[z]at h4;refine aJ (.int f2) (.int f) rr rr ?_;show some (D.bl (decide (f2<f)),false)=_;rw[mf];have:=h4.2;rw[show lW _=true from rr]at this;simpa using this
end
def CN (K:KL)(n:Nat):Prop:=∃r,(r,n)∈K/\kindOf r∉aZ
theorem KI:∀ {l:List Cl},l≠[]->∃c∈l,ND l=c.n
 |b::r,_=>⟨_,mW r b,rr⟩
def KJ {K:KL}{O:List Cl}(h:∀c∈O,CN K c.n)(M:LS)(p:Str)(day:Int):∀c∈bQ O M p day,CN K c.n:=λc hc=>by
 obtain⟨a,ha,hc⟩:=List.mem_flatMap.mp hc;unfold dY at hc;have:c.n=a.n:=by
  split at hc
  .rw[uT hc]
  split at hc
  .rw[uT hc]
  .cases hc
 rw[this];exact h a ha
def Ov {K:KL}{st:Pm}{x:D×Nat}(hx:x∈K)(h:∀c∈st.1,CN K c.n):∀c∈(cF K st x).1,CN K c.n:=by
 unfold cF;split
 .rename_i hc;have M:CN K x.2:=by
   refine⟨x.1,hx,λhb=>?_⟩;unfold bU at hc;have no:∀k∈aZ,k ≠ "death"/\k∉sX:=S9
   rw[if_neg (no _ hb).1,if_neg (no _ hb).2]at hc;cases hc
  split
  .intro c hc;rcases mem_append.mp hc with z|z
   .exact h c z
   .rw[uT z];exact M
  split
  .intro c hc;rcases mem_append.mp hc with z|z
   .exact KJ h _ _ _ c z
   .rw[uT z];exact M
  split
  .exact h
  .intro c hc;rcases mem_append.mp hc with z|z
   .exact KJ h _ _ _ c z
   .obtain⟨o,_,z⟩:=List.mem_flatMap.mp z;unfold cB at z;have:c.n=x.2:=by
     split at z
     .split at z<;>simp_all
     .cases z
    rw[this];exact M
 .exact h
theorem EI {K:KL}:∀(l:KL)(st:Pm),(∀x∈l,x∈K)->(∀c∈st.1,CN K c.n)->∀c∈(l.foldl (cF K) st).1,CN K c.n
 |[],_,_,h=>h
 |x::l,st,hl,h=>EI l _ (λy hy=>hl y (mZ _ hy)) (Ov (hl x mX) h)
def G9 (K:KL):∀c∈aQ K,CN K c.n:=λc hc=>
 EI _ _ (λx hx=>(vN ((aF _ _).mem_iff.mp hx)).1) (λc hc=>by cases hc) c ((aF _ _).mem_iff.mp hc)
def EJ {K:KL}{o rl:Str}{day:Int}{p:Str}{n:Int}(h:dX (aQ K) o rl day=.tup [.str "one",.str p,.int n]):∃m:Nat,n=m/\CN K m:=by
 unfold dX at h;generalize e:Tw _ o _=l at h;have hl:∀c∈l,CN K _:=λc hc=>G9 K c (by rw[<-e]at hc;exact(vN hc).1);cases l with
 |nil=>cases h
 |cons b r=>
  change (if _ then _ else _)=_ at h;split at h
  .cases h
  .have hp:=h;obtain⟨_,hp⟩:(gH rl b r).p=p/\((ND _:Nat):Int)=n:=by simpa using hp
   have M:(b::r).filter (λc=>decide (c.p=(gH rl b r).p))≠[]:=by
    refine List.ne_nil_of_mem (mem_filter.mpr ⟨uw rl b r,mf rr⟩)
   obtain⟨c,hc,e2⟩:=KI M;exact⟨c.n,by rw[<-hp,e2],hl c (vN hc).1⟩
def Wv (v r:D)(k:Nat):Prop:=(kindOf r ≠ "copy"->fE v &&& fE r=fE r)/\(kindOf r = "leave"->dZ r<=dZ v - k)
def xC {k:Str}(h:k∈aZ)(n:k ≠ "copy"):k∈bR:=by
 grind [aZ,bR]
def EK {r q:D}(h:kg r q=true):fE q &&& fE r=fE r/\(kindOf r = "leave"->dZ r<dZ q):=by
 unfold kg at h;rw[vC]at h;refine⟨xG h.1,λk=>?_⟩;have h2:=h.2;rw[show lW r=true from mf k]at h2;simpa using h2
section
variable {aa:LD}{ae day:Int}
def Sy {n:Nat}{b:Bs}{l:List Bs}(hn:n∈aS aa ae day)(h:(nI aa ae n).filter (cu (aS aa ae day))=b::l):∃r,aa[n]? = some r/\(r,n)∈ag aa ae/\kindOf r∈aZ/\b∈cw aa ae (r,n)/\nI aa ae n=cw aa ae (r,n):=by
 obtain⟨r,hr,hk,M,_⟩:=xr hn;have e:nI aa ae n=cw aa ae (r,n):=by unfold nI;rw[hr]
 exact⟨r,hr,hk,M,e ▸ (vN (h ▸ mX)).1,e⟩
def ct (aa:LD)(ae:Int)(x:Nat):Nat:=((ag aa ae).filter λz=>bF z (aa.getD x .non,x)).length
structure Walk (aa:List D)(ae day:Int)(U:List Nat)(c:Int)(v r1:D)(n1:Nat):Prop where
 rv:v∈bf (ag aa ae)
 h1:U[0]? = some n1
 e1:aa[n1]? = some r1
 k1:kindOf r1∈bR
 of:rN (aQ (ag aa ae)) r1 v=true
 cn:c=BD (aQ (ag aa ae)) r1 v
 bg:Pr (nI aa ae) c n1=true
 ea:∀(j x:Nat),U[j]? = some x->x∈aS aa ae day/\∃r,aa[x]? = some r/\kindOf r∈aZ/\Wv v r (j+1)
 lk:∀(j x y:Nat),U[j]? = some x->U[j+1]? = some y->iL [.lst aa,.int x,.int y]=sO true/\Ps (nI aa ae) x y=true
def Wa (g:∀r∈aa,bv r){T:LN}{c:Int}(k:Lk (aS aa ae day) (nI aa ae) T c):∃v r1 n1,Walk aa ae day T.reverse c v r1 n1:=by
 induction k with
 |one n b l hS h ho=>
  obtain⟨r,hr,hk,a,hb,er⟩:=Sy hS h;have p:kindOf r ≠ "copy":=λz=>by rw[(oB z hb).1]at ho;cases ho
  rcases xB p hb with⟨v,hv,s,M⟩|⟨x,_,_,_,_,M⟩
  .have hw:=EK (Bool.and_eq_true_iff.mp s).2;refine⟨v,r,n,hv,rr,hr,xC a p,s,by rw[M];rfl,?_,?_,?_⟩
   .exact any_eq_true.mpr ⟨b,by rw[show((n:Int)).toNat=n from rr,er];exact hb,by rw[ho,mf rr];rfl⟩
   .intro j x hx;cases j with
    |zero=>
     cases hx
     exact⟨hS,r,hr,a,λ_=>hw.1,λz=>by have:=hw.2 z;lia⟩
    |succ j=>cases hx
   .intro j x y _ hy;cases hy
  .rw[M]at ho;cases ho
 |more n m ns c b l hS h ho hm k C=>
  refine cX λK W=>?_;obtain⟨v,r1,n1,w⟩:=C;obtain⟨r,hr,hk,a,hb,er⟩:=Sy hS h;apply W;have t:(m::ns).reverse[ns.length]? = some m:=X9
  obtain⟨D,q,hq,I,wq⟩:=w.ea _ _ t;have E:Ps (nI aa ae) m n=true:=any_eq_true.mpr ⟨b,by rw[show((n:Int)).toNat=n from rr,er];exact hb,by rw[ho,hm,mf rr];rfl⟩;have key:iL [.lst aa,.int m,.int n]=sO true/\Wv v r (ns.length+2):=by
   by_cases O:kindOf r = "copy"
   .obtain⟨M,hc⟩:=oB O hb;have e2:dE 2 r=(m:Int):=by rw[<-hm,M]
    rw[e2]at hc;refine⟨G8 g hq hr O e2 hc,λz=>absurd O z,λz=>?_⟩;rw[O]at z;exact absurd z S9
   .rcases xB O hb with⟨v,_,_,M⟩|⟨x,hx,f,u,d,M⟩
    .rw[M]at ho;cases ho
    .have e:x.2=m:=by
      lia
     have A:=aB hx;rw[e,hq]at A;have i:x.1=q:=(vK A).symm;rw[show x=(q,m) by rw[<-i,<-e]]at f u d;refine⟨BS g hq hr (xC a O) f u d,?_⟩;unfold xp at d;rw[vC,vC]at d;have F:=EK d.2.2;have G:kindOf q ≠ "copy":=λz=>by rw[show kindOf q = "leave" from f]at z;exact absurd z S9
     refine⟨λ_=>?_,λz=>?_⟩
     .have B:=wq.1 G;have H:=F.1;rw[<-H,<-Nat.and_assoc,B]
     .have B:=wq.2 f;lia
  rw[reverse_cons];have l1:(m::ns).reverse.length=ns.length+1:=X9
  refine⟨v,r1,n1,w.rv,?_,w.e1,w.k1,w.of,w.cn,w.bg,?_,?_⟩
  .rw[getElem?_append_left N9];exact w.h1
  .intro j x hx;rcases Nat.lt_or_ge j (ns.length+1)with hj|hj
   .rw[getElem?_append_left N9]at hx;exact w.ea j x hx
   .rw[getElem?_append_right N9,l1]at hx;have o:j=ns.length+1:=by have:=(vV hx).1;simp at this;lia
    subst o;rw[Nat.sub_self]at hx;cases hx
    exact⟨hS,r,hr,a,key.2⟩
  .intro j x y hx hy;rcases Nat.lt_or_ge (j+1) (ns.length+1)with hj|hj
   .rw[getElem?_append_left N9]at hx hy;exact w.lk j x y hx hy
   .rw[getElem?_append_right N9,l1]at hy;have o:j=ns.length:=by have:=(vV hy).1;simp at this;lia
    subst o;rw[Nat.sub_self]at hy;cases hy
    rw[getElem?_append_left N9,t]at hx;cases hx
    exact⟨key.1,E⟩
def KN (g:∀r∈aa,bv r){T:LN}{c:Int}(k:Lk (aS aa ae day) (nI aa ae) T c):T.Nodup/\∀n ns,T=n::ns->∀x∈ns,ct aa ae x<ct aa ae n:=by
 induction k with
 |one n b l hS h ho=>exact⟨X9,λd ns e x hx=>by cases e;cases hx⟩
 |more n m ns c b l hS h ho hm k a=>
  refine cX λG K=>?_;obtain⟨r,hr,hk,i,hb,er⟩:=Sy hS h;obtain⟨O,q,e1,e2,h3,h4⟩:=lZ g hr hb ho;apply K;have:O=m:=N9
  subst this;have M:ct aa ae O<ct aa ae n:=by
   unfold ct;rw[vF,vF,hr,e2];exact Aa _ h3 h4
  have all:∀x∈O::ns,ct _ _ x<ct _ _ n:=λx hx=>by
   rcases vP hx with rfl|hx
   .exact M
   .exact Nat.lt_trans (a.2 _ _ rr x hx) M
  exact⟨nodup_cons.mpr ⟨λhx=>Nat.lt_irrefl _ (all n hx),a.1⟩,λd f e x hx=>by cases e;exact all x hx⟩
end
def ve {f g:FE}{ρ:DL.Env}{i j:Nat}{b1 b2:Bool}(e1:f ρ=some (.int i,b1))(e2:g ρ=some (.int j,b2))(hi:i<=1000)(hj:j<=1000):iZ f g ρ=some (bO i (j - i)):=by
 simp only[iZ,e1,e2,vJ];rw[if_pos N9,show((j:Int) - i).toNat=j - i by lia]
def nG {lo:Int}{n k:Nat}{d:D}(h:(bO lo n)[k]? = some d):d=.int (lo+k)/\k<n:=by
 unfold bO at h;rw[vA]at h;obtain⟨j,hj,rfl⟩:=oY h;obtain⟨h1,h2⟩:=vV hj;rw[getElem_range]at h2;rw[length_range]at h1;subst h2;exact⟨rr,h1⟩
def ma {zs:LD}{k:Nat}{d:D}{b:Bool}{ρ:DL.Env}{f g:FE}(e1:f ρ=some (.lst zs,false))(e2:g ρ=some (.int k,b))(h:zs[k]? = some d):f2 dI f g ρ=sF d:=by
 refine f8 e1 e2 ?_;show(ly _ _).map _=_;rw[bi h];rfl
def xD {aa:LD}{x:Nat}{a:Int}{k:Str}{aj:LD}{ρ:DL.Env}{f g:FE}{b:Bool}(e1:f ρ=some (.lst aa,false))(e2:g ρ=some (.int x,b))(h:aa[x]? = some (row a k aj)):f2 dI (f2 dI f g) (fI 1) ρ=sT (.str k::aj):=
 aJ _ _ (ma e1 e2 h) rr (by simp[row,sV])
def xE {zs:LD}{ρ:DL.Env}{i:Nat}(h:ρ[i]? = some (sL zs)):fA hV (fV i ay) ρ=sI (zs.length:Nat):=a0 [.lst zs] (by simp[h]) X9
def Wb (v r:D)(k:Nat):Bool:=(decide (kindOf r = "copy") || decide (fE v &&& fE r=fE r)) && !(decide (kindOf r = "leave") && decide (dZ v - k<dZ r))
def Wv.b {v r:D}{k:Nat}(h:Wv v r k):Wb v r k=true:=by
 unfold Wb;rw[vC];refine⟨?_,?_⟩
 .by_cases M:kindOf r = "copy"
  .rw[mf M];rfl
  .rw[mf (h.1 M),Bool.or_true]
 .by_cases O:kindOf r = "leave"
  .have:=h.2 O;rw[decide_eq_false (p:=dZ v - k<dZ r) N9,Bool.and_false];rfl
  .rw[oC O];rfl
section
variable {aa:LD}(g:∀r∈aa,bv r)
include g
theorem GA {U:LN}{c:Int}{a:Int}{o rl:Str}{m:Nat}{f:Int}{v:D}(ev:v=row a ("root" : Str) [.str o,.int m,.int f,.str rl])(P:U.length<=100)(h:∀x∈U,∃r,aa[x]? = some r/\kindOf r∈aZ):
  jm [.lst aa,.lst (.int c::U.map λ(x:Nat)=>.int (x:Int)),.tup [.str "root",.str o,.int m,.int f,.str rl]]=sO (decide (∀i,i<U.length->Wb v (aa.getD (U.getD i 0) .non) (i+1)=true)):=by
 let Z:LD:=.int c::U.map λ(x:Nat)=>.int (x:Int);let E:=λu w=>[sL aa,sL Z,sT [.str "root",.str o,.int m,.int f,.str rl],u,w];have A:Z.length=U.length+1:=by simp[Z]
 have C:(bO ((1:Nat):Int) (Z.length - 1)).length=U.length:=by unfold bO;rw[vI,length_range,A];rfl
 have run:=JF (tg:=fz 3) (g:=zq) (d:=.bl false) (b:=false) (λ_ ρ=>∃u w,ρ=E u w) (λi=>Wb v (aa.getD (U.getD i 0) .non) (i+1)) (bO ((1:Nat):Int) (Z.length - 1)) (E none none) ⟨_,_,rr⟩ (by
  rintro i d ρ hd ⟨u,w,rfl⟩;obtain⟨rfl,hi⟩:=nG hd;rw[A]at hi;have hi:i<U.length:=N9
  obtain⟨r,hr,s⟩:=h U[i] (getElem_mem hi);have hz:Z[i+1]? = some (.int ((U[i]:Nat):Int)):=by
   show(U.map _)[i]? = _;rw[vA,vU hi];rfl
  rw[show U.getD i 0=U[i] by rw[vF,vU hi];rfl,show aa.getD U[i] .non=r by rw[vF,hr];rfl];obtain⟨M,k,aj,rfl,dd⟩:=g r (vL hr);have s:k∈aZ:=s;let R:D:=.tup (.str k::aj);obtain⟨z,ek⟩:∃z,z=((1:Nat):Int)+i:=⟨_,rr⟩;rw[<-ek];have ek:z=((i+1:Nat):Int):=N9
  refine⟨E (sI z) w,rr,?_⟩;have j:ft 4 0 (E (sI z) (sF R))=sS k:=by simp[E,R,sv]
  have F:kindOf (row M k aj)=k:=rr;have G:fE v=m:=by rw[ev];rfl
  have H:dZ v=f:=by rw[ev];rfl
  have first:∀ {q:FS}{res:Option Res},q (E (sI z) (sF R))=res->bN (dN 4 (f2 dI (f2 dI (aq 0) (f2 dI (aq 1) (aq 3))) (fI 1))) q (E (sI z) w)=res:=λhq=>
   fu R (xD rr (ma (k:=i+1) (b:=false) rr (by rw[<-ek];rfl) hz) hr) (by have:=dd.flat;simpa [R]using this) hq
  unfold Wb;rw[F,G,H];by_cases l:k = "copy"
  .subst l;refine .inl ⟨rr,_,first (am (bS (p:=false) (q:=false) (bB (aJ (.str "copy") (.str "copy") j rr X9)) X9) (gM (bS (p:=false) (q:=false) (bB (aJ (.str "copy") (.str "leave") j rr (by simp;decide +kernel))) X9) rr)),_,_,rr⟩
  .have I:k∈bR:=xC s l;have J:=kT m (fE (row M k aj));have K:=P1 dd I M;have O:fQ (bJ (f2 GP (ft 4 0) (fS "copy"))) (lh (bJ (fA g9 (ak (ft 2 2) (ak (fA gY (fV 4 ay)) ay))))) (E (sI z) (sF R))=some (true && !decide (m &&& fE (row M k aj)=fE (row M k aj))):=bS (bB (aJ (.str k) (.str "copy") j rr (by simp[l]))) λ_=>aK (bB (a0 [.int m,.int (fE (row M k aj))] (aM rr (aM (a0 _ rr K) rr)) J));rw[oC l,Bool.false_or];cases hc:decide (m &&& fE (row M k aj)=fE (row M k aj)) with
   |false=>
    rw[hc]at O;exact .inr ⟨rr,first (aP O (ai rr))⟩
   |true=>
    rw[hc]at O;rw[Bool.true_and];by_cases t:k = "leave"
    .subst t;refine cX λW Y=>?_;obtain⟨Q,d2,b2,p2,m2,S,y,er,_,_,_,L⟩:=fw (g _ (vL hr)) rr;apply Y;rw[L,mf rr,Bool.true_and];have er:=by
      simp only[row,D.tup.injEq,List.cons.injEq,D.int.injEq,D.str.injEq,true_and,and_true]at er;exact er.2
     subst er;have n:fQ (bJ (f2 ko (ft 4 0) (fS "leave"))) (bJ (f2 Tk (ft 4 6) (f2 QR (ft 2 3) (aq 3)))) (E (sI z) (sF R))=some (true && decide (f - ((i+1:Nat):Int)<y)):=bS (bB (aJ (.str "leave") (.str "leave") j rr X9)) λ_=>bB (aJ (.int y) (.int (f - z)) rr (aJ (.int f) (.int z) rr rr X9) (by rw[<-ek];rfl));cases hf:decide (f - ((i+1:Nat):Int)<y) with
     |false=>
      rw[hf]at n;exact .inl ⟨rr,_,first (am O (gM n rr)),_,_,rr⟩
     |true=>
      rw[hf]at n;exact .inr ⟨rr,first (am O (mM n (ai rr)))⟩
    .rw[oC t];exact .inl ⟨rr,_,first (am O (gM (bS (p:=false) (q:=false) (bB (aJ (.str k) (.str "leave") j rr (by simp[t]))) X9) rr)),_,_,rr⟩)
 rw[C]at run;have e2:iZ (fI 1) (fA hV (fV 1 ay)) (E none none)=some (bO ((1:Nat):Int) (Z.length - 1)):=ve (i:=1) (b1:=false) rr (xE rr) H9 N9;rcases run with⟨N,ρ',e,u,w,rfl⟩|⟨⟨i,hi,B⟩,e⟩
 .rw[mf N];exact ah rr (cm (gb e2 e) (ai rr))
 .rw[oC λz=>by rw[z i hi]at B;cases B];refine ah rr (VH ?_);show(iZ (fI 1) (fA hV (fV 1 ay)) (E none none)).bind _=_;rw[e2];exact e
end
section
variable {aa:LD}(g:∀r∈aa,bv r) (hl:aa.length<=30) (hA:∀r∈aa,aT r<=9999) (hn:((bf (ag aa 9999)).map (ao 0)).Nodup) (ho:(bV (ag aa 9999)).length<=60)
include g hl hn ho
theorem GB {v:D}(hv:v∈bf (ag aa 9999))(day:Int):mT [.tup aa,.int 9999,.str (ao 0 v),.int day]=some (dX (aQ (ag aa 9999)) (ao 0 v) (ao 3 v) day,false):=by
 have b:eD _:=⟨N9,λr hr=>(g r hr).c⟩;obtain⟨d,M⟩:=uG b _ ho;have O:=Gn hn hv;obtain⟨x,hx,rfl⟩:=vO hv;refine cX λG K=>?_;obtain⟨h1,h2⟩:=vN hx;obtain⟨a,o,rl,m,f,er,_,_⟩:=jZ (g _ (vL (aB h1))) h2;apply K;have hf:=(g _ (vL (aB h1))).flat;refine ah rr (fu _ (aJ _ _ (a0 _ rr (nn b _)) rr ?_) hf (am (bB (aJ _ _ rr rr ?_)) (ai (a0 _ (a7 (a0 _ rr d) rr) ?_))))
 .show some ((br _ _ _).getD _,false)=_;rw[show br _ _ _=some _ from O];rfl
 .rw[er];rfl
 .rw[er];exact jp _ M _
def KO:D->D
 |.tup [_,d]=>d
 |_=>.non
def Sz (aa:LD)(day:Int)(p:Str)(c:Int)(v:D):Bool:=aG v && cZ (dX (aQ (ag aa 9999)) (ao 0 v) (ao 3 v) day) (.tup [.str "one",.str p,.int c])
include hA
omit hl hn ho in
theorem Ow {v:D}(hv:v∈aa)(h:aG v=true):v∈bf (ag aa 9999):=by
 obtain⟨n,hn⟩:=mem_iff_getElem?.mp hv;exact uS ⟨(v,n),mem_filter.mpr ⟨mem_filter.mpr ⟨List.mk_mem_zipIdx_iff_getElem?.mpr hn,mf (hA v hv)⟩,h⟩,rr⟩
theorem KP {n1:Nat}{c:Int}{p d1:Int}{k1 b1:Str}{q:LD}(h1:aa[n1]? = some (row p k1 (.int d1::.str b1::q))):
  o3 [.lst aa,.tup aa,.int c,.int n1]=lT ((aa.filter (Sz aa d1 b1 c)).map KO):=by
 let E:=λM u w=>[sL aa,sT aa,sI c,sI n1,lT M,u,w];obtain⟨ρ',e,u,w,rfl⟩:=cL (tg:=Ic [5,6]) (g:=B7) (λi ρ=>∃u w,ρ=E (((aa.take i).filter (Sz aa d1 b1 c)).map KO) u w) aa (E [] none none) ⟨_,_,rr⟩ (by
  rintro i r ρ hr ⟨u,w,rfl⟩;have hm:=vL hr;obtain⟨a,k,aj,rfl,dd⟩:=g r hm;let R:D:=.tup (.str k::aj);let M:=((aa.take i).filter (Sz aa d1 b1 c)).map KO;have t:M.length<=30:=by
   rw[vI];exact vR (vM _ _) (vR (take_sublist _ _).length_le hl)
  have Yx:aa.take (i+1)=aa.take i++[row a k aj]:=by rw[take_add_one,hr];rfl
  have l:ft 6 0 (E M (sI a) (sF R))=sS k:=by simp[E,R,sv]
  rw[Yx,List.filter_append,uW];refine⟨E M (sI a) (sF R),E _ (sI a) (sF R),rr,.inl ?_,_,_,rr⟩;by_cases j:k = "root"
  .subst j;have O:aG (row a "root" aj)=true:=rr;have hv:=Ow g hA hm O;refine cX λG K=>?_;obtain⟨v,o,rl,m,f,er,_,_⟩:=jZ (g _ hm) O;apply K;have er:=by
    simp only[row,D.tup.injEq,List.cons.injEq,D.int.injEq,D.str.injEq,true_and,and_true]at er;exact er.2
   subst er;have n:=xD (ρ:=E M (sI a) (sF R)) (f:=aq 0) (g:=aq 3) (b:=false) rr rr h1;have s:=GB g hl hn ho hv d1;have h:bJ (f2 ko (fA mT (fV 1 (ak (fI 9999) (ak (ft 6 1) (ak (f2 dI (f2 dI (f2 dI (aq 0) (aq 3)) (fI 1)) (fI 1)) ay))))) (fA dn (ak (fS "one") (ak (f2 dI (f2 dI (f2 dI (aq 0) (aq 3)) (fI 1)) (fI 2)) (fV 2 ay))))) (E M (sI a) (sF R))=some (Sz aa d1 b1 c (row a "root" [.str o,.int m,.int f,.str rl])):=by
    refine bB (aJ _ _ (a0 _ (aM rr (aM rr (aM rr (aM (aJ _ (.int 1) n rr (by simp[sV])) rr)))) s) (a0 [.str "one",.str b1,.int c] (aM rr (aM (aJ _ (.int 2) n rr (by simp[Z6])) rr)) (bd _ X9)) ?_);unfold ko;rw[if_pos ⟨gD 39 40 _ H9 (BA _ _ _ _),X9⟩];rfl
   refine mM (bB (aJ (.str "root") (.str "root") l rr X9)) ?_;cases hh:Sz aa d1 b1 c _ with
   |true=>
    rw[hh]at h;refine mM h ((jc (ds:=M) (d:=R) (b:=false) rr rr rr (b7 N9)).trans ?_);rw[List.filter_cons_of_pos hh];rfl
   |false=>
    rw[hh]at h;refine gM h ?_;rw[List.filter_cons_of_neg (by rw[hh];decide)];show some (Res.nx _)=some (Res.nx (E (M++[]) _ _));rw[uQ]
  .refine gM (bB (aJ (.str k) (.str "root") l rr (by simp[j]))) ?_;rw[List.filter_cons_of_neg (by show ¬(aG _ && _)=true;rw[show aG (row a k aj)=false from oC j,Bool.false_and];decide)];show some (Res.nx _)=some (Res.nx (E (M++[]) _ _));rw[uQ])
 rw[take_length]at e;exact ah rr (bx (a0 [] rr rr) rr (cm (jd rr e) (kI rr)))
end
theorem vg:∀(l M:LI),(M++l).Nodup->l.foldl ie M=M++l
 |[],M,_=>by simp
 |x::l,M,h=>by
  have hx:=λz=>(nodup_append.mp h).2.2 x z x mX rr;rw[foldl_cons,show ie M x=M++[x] by unfold ie;rw[if_neg hx]];rw[vg l _ (by rw[append_assoc];exact h),append_assoc];rfl
def Ox (l:LD)(x:D):ly (l++[x]) (-1)=some x:=by
 unfold ly GN;rw[uZ,length_singleton,if_neg H9,if_pos N9,show(-1+((l.length+1:Nat):Int)).toNat=l.length by lia];simp
theorem Av:∀xs:LI,oK (xs.map .int)=some xs
 |[]=>rr
 |x::xs=>by simp[oK,Av xs]
section
variable {aa:LD}(g:∀r∈aa,bv r) (hl:aa.length<=30) (hA:∀r∈aa,aT r<=9999) (hn:((bf (ag aa 9999)).map (ao 0)).Nodup) (ho:(bV (ag aa 9999)).length<=60)
include g hl hn ho hA
theorem GC {day:Int}{n:Nat}{ns:LN}{c:Int}(k:Lk (aS aa 9999 day) (nI aa 9999) (n::ns) c)(GF:ns.length<=60):
  lQ [.lst aa,.tup aa,.lst (.int c::(n::ns).reverse.map λ(x:Nat)=>.int (x:Int)),.int n]=sO true:=by
 obtain⟨v,r1,n1,w⟩:=Wa g k;have nd:=(KN g k).1;obtain⟨U,M⟩:∃U,U=(n::ns).reverse:=⟨_,rr⟩;have B:U=ns.reverse++[n]:=by rw[M,reverse_cons]
 have C:U.Nodup:=by rw[M];exact List.pairwise_reverse.mpr (nd.imp λh e=>h e.symm)
 have P:U.length=ns.length+1:=by rw[M];simp
 rw[<-M]at w |-;let Z:LD:=.int c::U.map λ(x:Nat)=>.int (x:Int);have Q:Z.length=U.length+1:=by simp[Z]
 have K:Z=(c::U.map λ(x:Nat)=>(x:Int)).map .int:=by simp[Z]
 have R:=vL w.e1;have O:=w.of;unfold rN at O;rw[vC]at O;have s:=xo O.1;obtain⟨S,k1,F,t,G⟩:=g r1 R;have N:k1∈bR:=by have:=w.k1;rw[t]at this;exact this
 obtain⟨d1,b1,F,rfl⟩:=pE G (eQ (.inl (jq N)));have T:k1 ≠ "copy":=λe=>Au (e ▸ N)
 -- the claim's number is none of the rows'
 obtain⟨m,V,hm⟩:=EJ s;rw[<-w.cn]at V;have W:∀x∈U,(x:Int)≠c:=λx hx z=>by
  obtain⟨j,hj⟩:=mem_iff_getElem?.mp hx;obtain⟨_,r,hr,H,_⟩:=w.ea j x hj;obtain⟨q,hq,X⟩:=hm;have:x=m:=N9
  subst this;have hq:=aB hq;rw[show aa[(q,x).2]? = some r from hr]at hq;have hq:r=q:=vK hq;exact X (hq ▸ H)
 have I:(c::U.map λ(x:Nat)=>(x:Int)).Nodup:=by
  rw[nodup_cons];refine⟨λz=>?_,?_⟩
  .obtain⟨x,hx,e⟩:=vO z;exact W x hx e
  .exact pairwise_map.mpr (C.imp λh e=>h N9)
 let E:OB->OB->DL.Env:=λu w=>[sL aa,sT aa,sL Z,sI n,u,w];have Y:U[0]? = some n1:=w.h1;have t0:jw (lh (bJ (fA j9 (fV 2 (ak (fC (.ty "list")) ay))))) (jw (bJ (f2 Tl (fA hV (fV 2 ay)) (fI 2))) (jw (bJ (f2 GP (f2 dI (aq 2) (f1 HN (fI 1))) (aq 3))) (bJ (f2 GP (f1 mJ (aq 2)) (fA hV (fV 2 ay)))))) (E none none)=some false:=by
  refine bc (p:=false) (q:=false) (aK (p:=true) (bB (a0 [.lst Z,.ty "list"] rr X9))) λ_=>bc (p:=false) (q:=false) (bB (aJ (.int (Z.length:Nat)) (.int 2) (xE rr) rr ?_)) λ_=>bc (p:=false) (q:=false) (bB (aJ (.int n) (.int n) (aJ (.lst Z) (.int (-1)) rr rr ?_) rr X9)) λ_=>bB (aJ (.int (Z.length:Nat)) (.int (Z.length:Nat)) ?_ (xE rr) X9)
  .show some (D.bl (decide ((Z.length:Int)<2)),false)=_;rw[oC N9]
  .show(ly Z (-1)).map _=_;rw[show Z=(.int c::ns.reverse.map λ(x:Nat)=>.int (x:Int))++[.int n] by simp[Z,B],Ox];rfl
  .show mJ (.lst Z)=_;show(oK Z).bind _=_;rw[K,Av];show(if _ then _ else _)=_;rw[if_pos I9,show dG _=_ from vg _ [] (by simpa using I)];simp[K]
 have e2:iZ (fI 2) (fA hV (fV 2 ay)) (E none none)=some (bO ((2:Nat):Int) (Z.length - 2)):=ve (i:=2) (b1:=false) rr (xE rr) H9 N9;obtain⟨ρ',e,u,rfl⟩:=cL (tg:=fz 4) (g:=zu) (λ_ ρ=>∃u,ρ=E u none) (bO ((2:Nat):Int) (Z.length - 2)) (E none none) ⟨_,rr⟩ (by
  rintro i d ρ hd ⟨u,rfl⟩;obtain⟨rfl,hi⟩:=nG hd;rw[Q]at hi;have hi:i+1<U.length:=N9
  have l1:=vU (l:=U) (i:=i) N9;have l2:=vU (l:=U) (i:=i+1) hi;have A:Z[i+1]? = some (.int ((U[i]:Nat):Int)):=by show(U.map _)[i]? = _;rw[vA,l1];rfl
  have z2:Z[i+2]? = some (.int ((U[i+1]:Nat):Int)):=by show(U.map _)[i+1]? = _;rw[vA,l2];rfl
  have ek:((2:Nat):Int)+i=((i+2:Nat):Int):=N9
  refine⟨E (sI (((2:Nat):Int)+i)) none,E (sI (((2:Nat):Int)+i)) none,rr,.inl (gM (aK (p:=true) (bB (a0 [.lst aa,.int ((U[i]:Nat):Int),.int ((U[i+1]:Nat):Int)] (aM rr (aM (ma (k:=i+1) (b:=false) rr (aJ (.int (((2:Nat):Int)+i)) (.int 1) rr rr ?_) A) (aM (ma (k:=i+2) (b:=false) rr (by rw[<-ek];rfl) z2) rr))) (w.lk i _ _ l1 l2).1))) rr),_,rr⟩;simp;lia)
 have h1:aa[n1]? = some (row S k1 (.int d1::.str b1::F)):=by rw[w.e1,t]
 have A:Z[1]? = some (.int (n1:Int)):=by show(U.map _)[0]? = _;rw[vA,Y];rfl
 let L:=aa.filter (Sz aa d1 b1 c);have J:∀r∈L,∃a o rl,∃m:Nat,∃f:Int,r=row a ("root" : Str) [.str o,.int m,.int f,.str rl]:=λr hr=>by
  obtain⟨hr,hh⟩:=vN hr;obtain⟨a,o,rl,m,f,er,_⟩:=jZ (g r hr) (Bool.and_eq_true_iff.mp hh).1;exact⟨a,o,rl,m,f,er⟩
 have hLl:L.length<=30:=vR (vM _ _) hl;have fl:∀l:LD,(∀r∈l,r∈L)->aX (l.map KO)=true:=λl hl=>b8 λd hd=>by
  obtain⟨r,hr,rfl⟩:=vO hd;obtain⟨a,o,rl,m,f,rfl⟩:=J r (hl r hr);rfl
 let p:D->Bool:=λr=>decide (∀i,i<U.length->Wb r (aa.getD (U.getD i 0) .non) (i+1)=true);have e5:=a0 (ρ:=E u none) (fa:=fV 0 (fV 1 (ak (ft 2 0) (ak (ft 2 1) ay)))) [.lst aa,.tup aa,.int c,.int n1] (aM rr (aM rr (aM (ma (k:=0) (b:=false) rr rr rr) (aM (ma (k:=1) (b:=false) rr rr A) rr)))) (KP g hl hA hn ho h1);have e6:=de (fi:=df (aq 5)) (nT:=1) (cap:=[0,2]) (tg:=fz 0) (c:=bJ (fA jm (fV 1 (fV 2 (fV 0 ay))))) (fe:=aq 0) (ρ:=E u (lT (L.map KO))) L KO p KO rr N9 λr hr=>by
  obtain⟨a,o,rl,m,f,rfl⟩:=J r hr;refine⟨_,rr,bB (a0 [.lst aa,.lst Z,.tup [.str "root",.str o,.int m,.int f,.str rl]] rr (GA g rr N9 λx hx=>?_)),λ_=>⟨false,rr⟩⟩;obtain⟨j,hj⟩:=mem_iff_getElem?.mp hx;obtain⟨_,r,hr,H,_⟩:=w.ea j x hj;exact⟨r,hr,H⟩
 have hv:v∈L.filter p:=by
  obtain⟨x,hx,rfl⟩:=vO w.rv;obtain⟨TH,SX⟩:=vN hx;refine mem_filter.mpr ⟨mem_filter.mpr ⟨vL (aB TH),?_⟩,mf λi hi=>?_⟩
  .unfold Sz;rw[show aG x.1=true from SX,w.cn];rw[t]at s |-;rw[show dX _ _ _ d1=_ from s];show(true && cZ (.tup [.str "one",.str b1,.int _]) _)=true;simp
  .obtain⟨_,r,hr,_,wv⟩:=w.ea i U[i] (vU hi);rw[show U.getD i 0=U[i] by rw[vF,vU hi];rfl,show aa.getD U[i] .non=r by rw[vF,hr];rfl];exact wv.b
 refine ah rr (show bN _ _ (E none none)=_ from am t0 (cm (gb e2 e) (bx e5 (fl L λ_ h=>h) (show bN _ _ (E u (lT (L.map KO)))=_ from bx e6 (fl _ λr hr=>(vN hr).1) (ai (bP (p:=true) (q:=true) (b1:=false) (aJ (.str k1) (.str "copy") (aJ (.tup (.str k1::.int d1::.str b1::F)) (.int 0) (xD rr (ma (k:=1) (b:=false) rr rr A) h1) rr (by simp[sv])) rr (by simp[T])) λ_=>f8 (x:=.lst ((L.filter p).map KO)) (y:=.lst []) (b1:=false) (b2:=true) rr (a0 [] rr rr) ?_))))));have hp:aY 40 (.lst ((L.filter p).map KO))=true:=by
  show((L.filter p).map KO).all (aY 39)=true;rw[all_eq_true];intro d hd;obtain⟨r,hr,rfl⟩:=vO hd;obtain⟨a,o,rl,m,f,rfl⟩:=J r (vN hr).1;rfl
 cases hc:L.filter p with
 |nil=>rw[hc]at hv;cases hv
 |cons r l=>
  rw[hc]at hp;unfold GP;rw[if_pos ⟨hp,rr⟩];simp
end
section
variable {zs:LS}{aa:LD}(g:GR zs aa)
include g
theorem S1 (M:Nm7 zs)(hl:aa.length<=24)(d:D)(hd:d=.lst aa\/d=.tup aa):fg [d]=some (.tup aa,false):=by
 refine Am ⟨⟨N9,M⟩,λj r h=>?_⟩ g.flat d hd;obtain⟨a,kind,aj,day,rfl,h1,h2,O,d⟩:=g.at_ j r h;exact⟨a,kind,aj,rr,N9,h2,d.g _ h1⟩
theorem GR.rk:∀r∈aa,bv r:=λr hr=>by obtain⟨j,M⟩:=g.mem hr;exact M.k
theorem GR.hd:∀r∈aa,aT r<=9999:=λr hr=>by
 obtain⟨j,h,kind,aj,day,rfl,_,M,_⟩:=g.mem hr;exact M
theorem GR.nd (ae:Int):((bf (ag aa ae)).map (ao 0)).Nodup:=List.Nodup.sublist (Kk _ _) g.off
end
def KQ {aa:LD}(hl:aa.length<=30)(ae:Int):(bV (ag aa ae)).length<=60:=by
 unfold bV;rw[(aF _ _).length_eq];exact vR (vM _ _) (vR (bI _ _) N9)
section
variable {aa:LD}{ae:Int}
def Oy {day:Int}{U:LN}{c:Int}{v r1:D}{n1:Nat}(w:Walk aa ae day U c v r1 n1):Pt (gK aa ae day) (nI aa ae) (c::U.map λ(x:Nat)=>(x:Int))=true:=by
 have M:∀x∈U,nD _ _=true:=λx hx=>by
  obtain⟨j,hj⟩:=mem_iff_getElem?.mp hx;obtain⟨r,_,_,_,hi⟩:=xr (w.ea j x hj).1;exact any_eq_true.mpr ⟨_,hi,mf rr⟩
 have lk:=w.lk;have h1:=w.h1;cases U with
 |nil=>cases h1
 |cons a U=>
  cases h1
  show((((n1:Nat):Int)::U.map _).all _ && (Pr _ c n1 && ((((n1:Nat):Int)::U.map _).zip _).all _))=true;rw[vC,vC];refine⟨?_,w.bg,?_⟩
  .rw[all_eq_true];intro z hz;obtain⟨x,hx,rfl⟩:=vO (show z∈(n1::U).map _ from hz);exact M x hx
  .rw[all_eq_true];intro p hp;obtain⟨j,hj⟩:=mem_iff_getElem?.mp hp;rw[getElem?_zip_eq_some]at hj;have O:((n1::U).map _)[j]? = some _:=hj.1;have b:=hj.2;rw[vA]at O b;refine eZ O λx hx ex=>?_;refine eZ b λy hy d=>?_;rw[<-ex,<-d];exact(lk j x y hx hy).2
def KR (g:∀r∈aa,bv r){day:Int}{zs:LI}{j f:Nat}(hj:j+1<zs.length)(hf:f∉aS aa ae day):Pt (gK aa ae day) (nI aa ae) (zs.set (j+1) (f:Int))=false:=by
 cases h:Pt _ _ _ with
 |false=>rfl
 |true=>
  obtain⟨n,hn,e⟩:=KG g _ h _ (mem_iff_getElem?.mpr ⟨j,by rw[List.getElem?_drop,Nat.add_comm 1 j,getElem?_set_self (by simpa using hj)]⟩);have:n=f:=N9
  exact absurd (this ▸ hn) hf
def Oz (g:∀r∈aa,bv r){day:Int}{U:LN}(h:∀x∈U,∃r,aa[x]? = some r/\kindOf r∈aZ):Pt (gK aa ae day) (nI aa ae) (U.map λ(x:Nat)=>(x:Int))=false:=by
 rcases U with _|⟨a,_|⟨b,U⟩⟩
 .rfl
 .rfl
 .cases hc:Pt _ _ _ with
  |false=>rfl
  |true=>
   have h':(_ && (Pr _ a b && _))=true:=hc;rw[vC,vC]at h';obtain⟨x,hx,M⟩:=any_eq_true.mp h'.2.1;rw[vC]at M;have hx:x∈nI aa _ b:=hx;obtain⟨r,hr,k⟩:=h b X9;have hx:=by unfold nI at hx;rw[hr]at hx;exact hx
   have i:kindOf r ≠ "copy":=λz=>by rw[(oB z hx).1]at M;cases M.1
   rcases xB i hx with⟨v,hv,O,c⟩|⟨y,_,_,_,_,c⟩
   .obtain⟨m,l,q,hq,j⟩:=EJ (xo (Bool.and_eq_true_iff.mp O).1);have e2:=xG M.2;rw[c]at e2;have e2:BD _ r v=(a:Int):=e2;have:m=a:=N9
    subst this;obtain⟨f,d,e⟩:=h m X9;have hq:=aB hq;rw[show aa[(q,m).2]? = some f from d]at hq;have hq:f=q:=vK hq;exact absurd (hq ▸ e) j
   .rw[c]at M;cases M.1
end
section
variable {aa:LD}(g:∀r∈aa,bv r) (hl:aa.length<=30) (ae:Int) (hn:((bf (ag aa ae)).map (ao 0)).Nodup) (ho:(bV (ag aa ae)).length<=60)
include g hl hn ho
theorem O0 (day:Int)(zs:LI)(hz:zs.length<=900):jl [.tup aa,.int ae,.int day,.lst (zs.map .int)]=sO (Pt (gK aa ae day) (nI aa ae) zs):=by
 refine Gz (o9 g hl _ hn ho _ 0).1 ⟨o8 _ _,Pp _ _,Pq hl _ _,λp hp=>?_⟩ zs N9;obtain⟨x,hx,rfl⟩:=vO hp;have h3:=aB (vN ((aF _ _).mem_iff.mp (vN hx).1)).1;unfold nI;rw[h3]
end
def Aw (z:Int)(S:LN):f7 (.int z) (.lst (kh S))=sO (!S.any λm=>decide ((m:Int)=z)):=by
 have h:=Sl z S;simp only[Fw,f7,fj,vJ]at h |-;split at h
 .rename_i q;rw[if_pos q];injection h with h;injection h with h _;injection h with h;rw[h]
 .cases h
def vh (zs:LN):aX (zs.map λ(m:Nat)=>D.int (m:Int))=true:=b8 λd hd=>by obtain⟨x,_,rfl⟩:=vO hd;rfl
section
variable {zs:LS}{aa:LD}(g:GR zs aa) (hl:aa.length<=23) (s:LD)
noncomputable abbrev lE (s aa:LD)(O a b c d e f M:OB):DL.Env:=[sL s,lT aa,sT aa,O,a,b,c,d,e,f,M]
abbrev lF (s aa:LD)(M:OB)(day:Nat)(F:LN)(O:OB):OB->OB->OB->DL.Env:=lE s aa M (sI day) (lT (kh (aS aa 9999 day))) (lT (F.map λ(m:Nat)=>.int (m:Int))) O
include g hl
theorem KS (y:OB)(day:Nat){F:LN}(K:∀f∈F,f∉aS aa 9999 day)(h0:F≠[]){n:Nat}{r:D}(hr:aa[n]? = some r)(h a M:OB):
  ∃L N A,wT (lF s aa y day F (sI n) h a M)=some (.nx (lF s aa y day F (sI n) L N A)):=by
 have O:aa.length<=30:=N9
 have ho:=KQ O 9999;have hn:=g.nd 9999;let E:=lF s aa y day F (sI n);have l:∀h a M,f2 f7 (aq 7) (aq 5) (E h a M)=sO (!decide (n∈aS aa 9999 day)):=λ_ _ _=>aJ _ (.lst (kh _)) rr rr (by rw[Aw,xq]);by_cases hS:n∈aS aa 9999 day
 .obtain⟨ns,c,k,P⟩:=Kn g.rk day _ n r hr hS (Nat.lt_succ_self _);have P:ns.length<=30:=by
   have:=vM (λz=>bF z (r,n)) (ag aa 9999);have:=bI aa 9999;lia
  have B:=Gy g.rk O 9999 hn ho day k N9;obtain⟨v,r1,n1,w⟩:=Wa g.rk k;have J:=GC g.rk O g.hd hn ho k N9;obtain⟨U,C⟩:∃U,U=(n::ns).reverse:=⟨_,rr⟩;have Q:U.length=ns.length+1:=by rw[C];simp
  rw[<-C]at w J;let e:LI:=c::U.map λ(x:Nat)=>(x:Int);let Z:LD:=.int c::U.map λ(x:Nat)=>.int (x:Int);have G:Z=e.map .int:=by simp[Z,e]
  have R:e.length=U.length+1:=by simp[e]
  have B:mS [.tup aa,.int 9999,.int day,.int n]=lT Z:=by
   rw[B,List.reverse_append,<-List.map_reverse,<-C];rfl
  have o:aX Z=true:=by rw[G];exact yW _
  have H:∀zs:LI,zs.length<=900->_:=λzs hz=>O0 g.rk O 9999 hn ho day zs hz
  -- what is put in
  have hp:(0:Int)<(U.length:Nat):=N9
  have m1:=mod_lt (x:=(n:Int)) hp;obtain⟨j,hj⟩:∃j:Nat,(n:Int) % (U.length:Nat)=j:=⟨((n:Int) % (U.length:Nat)).toNat,N9⟩;have t:(0:Int)<(F.length:Nat):=by have:=List.length_pos_iff.mpr h0;lia
  have m2:=mod_lt (x:=(n:Int)) t;obtain⟨i,hi⟩:∃i:Nat,(n:Int) % (F.length:Nat)=i:=⟨((n:Int) % (F.length:Nat)).toNat,N9⟩;have u:i<F.length:=N9
  have I:(Z.set (j+1) (.int ((F[i]:Nat):Int)))=(e.set (j+1) ((F[i]:Nat):Int)).map .int:=by rw[G,map_set]
  refine⟨lT Z,sO true,lT (Z.set (j+1) (.int ((F[i]:Nat):Int))),?_⟩;refine(show wT (E h a M)=_ from bx (ds:=Z) (a0 [.tup aa,.int 9999,.int day,.int n] rr B) o ?_);refine(show bN _ _ (E (lT Z) a M)=_ from am (bB (aJ (.bl false) (.bl false) (aJ (.lst Z) .non rr rr X9) ((l _ _ _).trans (by rw[mf hS];rfl)) X9)) ?_);refine am (aK (p:=true) (bB (a0 [.lst aa,.tup aa,.lst Z,.int n] rr J))) ?_;refine fu (.bl true) (a0 [.tup aa,.int 9999,.int day,.lst Z] (aM rr (aM rr (aM rr (a7 (b:=true) (a0 [.lst Z] rr rr) rr)))) ?_) rr ?_
  .rw[G,H e N9,Oy w]
  refine(show bN _ _ (E (lT Z) (sO true) M)=_ from am (bc (p:=false) (q:=false) (aK (p:=true) (bB (a0 [.bl true,.ty "bool"] rr X9))) λ_=>aK (p:=true) (bB rr)) ?_);refine bx (ds:=Z) (a0 [.lst Z] rr rr) o ?_;refine(show bN _ _ (E (lT Z) (sO true) (lT Z))=_ from cm (Ku (ds:=Z) (n:=j+1) (d:=.int ((F[i]:Nat):Int)) (b:=false) (b':=false) rr ?_ ?_ ?_ rr) ?_)
  .refine aJ (.lst (F.map λ(m:Nat)=>.int (m:Int))) (.int i) rr (hi ▸ aJ (.int n) (.int (F.length:Nat)) rr (a0 [.lst (F.map λ(m:Nat)=>.int (m:Int))] rr (by rw[eY,vI])) (An _ t)) ?_;show(ly _ _).map _=_;rw[bi (by rw[vA,vU u];rfl)];rfl
  .have e1:f2 jx (aq 7) (f2 QR (fA hV (fV 8 ay)) (fI 1)) (E (lT Z) (sO true) (lT Z))=sI j:=by
    rw[<-hj];refine aJ (.int n) (.int (U.length:Nat)) rr (aJ (.int (Z.length:Nat)) (.int 1) (a0 [.lst Z] rr eY) rr ?_) (An _ hp);show some (D.int ((Z.length:Int) - 1),false)=_;rw[show Z.length=U.length+1 by simp[Z],show((U.length+1:Nat):Int) - 1=(U.length:Nat) by lia]
   refine aJ (.int 1) (.int j) rr e1 ?_;show some (D.int (1+(j:Int)),false)=_;rw[show(1:Int)+j=((j+1:Nat):Int) by lia]
  .show j+1<Z.length;rw[show Z.length=U.length+1 by simp[Z]];lia
  refine gM (bc (p:=false) (q:=false) (bB (a0 _ rr ?_)) λ_=>bB (a0 [.tup aa,.int 9999,.int day,.lst (U.map λ(x:Nat)=>.int (x:Int))] (aM rr (aM rr (aM rr (a7 (b:=true) ?_ rr)))) ?_)) rr
  .rw[I,H _ (by rw[length_set];lia),KR g.rk N9 (K _ (getElem_mem u))]
  .show some (D.lst (iD Z (some 1) none),_)=_;rw[Kq]
  .have:=H (U.map λ(x:Nat)=>(x:Int)) (by rw[vI];lia);rw[uP]at this;refine this.trans ?_;rw[Oz g.rk λx hx=>?_];obtain⟨j,hj⟩:=mem_iff_getElem?.mp hx;obtain⟨_,r,hr,S,_⟩:=w.ea j x hj;exact⟨r,hr,S⟩
 .have en:=Kp g.rk O 9999 hn ho day hS;refine⟨sF .non,a,M,?_⟩;refine(show wT (E h a M)=_ from fu .non (a0 [.tup aa,.int 9999,.int day,.int n] rr en) rr ?_);refine(show bN _ _ (E (sF .non) a M)=_ from am (bB (aJ (.bl true) (.bl true) (aJ .non .non rr rr X9) ((l _ _ _).trans (by rw[oC hS];rfl)) X9)) ?_);exact gM (bB (aJ .non .non rr rr X9)) rr
end
def O1 {ns:LI}(hf:RJ ns){zs:LS}{aa:LD}(g:GR zs aa)(hl:aa.length<=23){k:Nat}(hk:k<=70)(z A u v w x O:OB):
  ∃B C G s l o M,Sb (lE (ns.map .int) aa (sI k) z A u v w x O)=some (.nx (lE (ns.map .int) aa (sI k) B C G s l o M)):=by
 obtain⟨c,H⟩:=pG hf (24+k) N9;obtain⟨day,I⟩:∃d:Nat,c % 16=d:=⟨(c % 16).toNat,N9⟩;have t:aa.length<=30:=N9
 have es:=zY g.rk t 9999 (g.nd 9999) (KQ t 9999) (day:Int);let S:=aS aa 9999 (day:Int);let p:Nat->Bool:=λn=>!decide (n∈S);let F:LN:=(List.range aa.length).filter p;have J:∀f∈F,f∉S:=λf h=>by
  have:=(vN h).2;simpa [p]using this
 have h0:F≠[]:=by
  obtain⟨r,hr,K⟩:=g.rt;obtain⟨n,hn⟩:=mem_iff_getElem?.mp hr;refine List.ne_nil_of_mem (a:=n) (mem_filter.mpr ⟨mem_range.mpr (vV hn).1,?_⟩);show(!decide (n∈S))=true;rw[oC λh=>?_];rfl;obtain⟨q,hq,_,y,_⟩:=xr h;rw[hn]at hq;cases hq
  rw[show kindOf r = "root" from xG K]at y;exact absurd y S9
 let E:=lE (ns.map .int) aa (sI k) (sI day) (lT (kh S));have hc:=de (fi:=jA (fA hV (fV 1 ay))) (nT:=1) (cap:=[5]) (tg:=fz 0) (c:=bJ (f2 f7 (aq 0) (aq 1))) (fe:=aq 0) (ρ:=E u v w x O) (List.range aa.length) _ p _
  (by rw[eJ (j:=aa.length) (b:=false) (a0 [.lst aa] rr eY) N9,uo,uP];rfl) I9 λn _=>⟨_,rr,bB (aJ (.int n) (.lst (kh S)) rr rr (by rw[Aw,xq])),λ_=>⟨false,rr⟩⟩
 obtain⟨ρ',e,s,l,o,M,rfl⟩:=cL (tg:=fz 7) (g:=wT) (λ_ ρ=>∃s l o M,ρ=lF (ns.map .int) aa (sI k) day F s l o M) (bO 0 aa.length) _ ⟨_,_,_,_,rr⟩ (by
  rintro i d ρ hd ⟨s,l,o,M,rfl⟩;obtain⟨rfl,hi⟩:=nG hd;obtain⟨N,P,L,ex⟩:=KS g hl (ns.map .int) (sI k) day J h0 (vU hi) l o M;rw[Int.zero_add];exact⟨_,_,rr,.inl ex,_,_,_,_,rr⟩)
 refine⟨sI day,lT (kh S),lT (F.map λ(m:Nat)=>.int (m:Int)),s,l,o,M,?_⟩;refine fu (.int day) (I ▸ im (a0 _ (aM rr (aM (aJ (.int 24) (.int k) rr rr ?_) rr)) H) H9) rr ?_
 .show some (D.int (24+(k:Int)),false)=_;rw[show(24:Int)+k=((24+k:Nat):Int) by lia]
 refine bx (ds:=kh S) (a0 [.tup aa,.int 9999,.int day] rr es) (by rw[E9];exact vh _) ?_;refine(show bN _ _ (E u v w x O)=_ from bx hc (vh _) ?_);exact gb (eJ (j:=aa.length) (b:=false) (a0 [.lst aa] rr eY) N9) e
def law_true (ns:LI)(m:ns.length<=63)(hf:RJ ns):∃b,F_law [.lst (ns.map .int)]=some (.bl true,b):=by
 obtain⟨zs,aa,er,n,g,hl⟩:=Op m hf;obtain⟨ρ',e,l,O,a,c,f,h,j,M,rfl⟩:=cL (tg:=fz 3) (λ_ ρ=>∃l O a c f h j M,ρ=lE (ns.map .int) aa l O a c f h j M) (bO 0 2) _ ⟨_,_,_,_,_,_,_,_,rr⟩ (by
  rintro i d ρ hd ⟨l,O,a,c,f,h,j,M,rfl⟩;obtain⟨rfl,hi⟩:=nG hd;refine cX λG K=>?_;obtain⟨p,q,r,s,t,u,o,ex⟩:=O1 hf g hl (k:=i) N9 O a c f h j _;apply K;rw[Int.zero_add];exact⟨_,_,rr,.inl ex,_,_,_,_,_,_,_,_,rr⟩)
 refine⟨false,ah rr (bx (a0 _ rr er) g.flat (fu _ (a0 _ (a7 (a0 _ rr rr) rr) (S1 g n N9 _ (.inl rr))) ?_ (cm (gb (eJ rr H9) e) (ai rr))))⟩;have:=g.flat;simpa using this
end Lw
namespace Lw
open PySem PySem.Spec PyProof.Rows L2 DL
structure Tx (w:World)(K:Frag)(mg:Str->Option Value):Prop where
 hX:∃h,K.In h/\h.Ns mainGlobals mg
 d0:bL K "is_whole" (aO 6)
 d1:bL K "is_day" (aO 7)
 d2:bL K "is_stretch" (aO 8)
 d3:bL K "is_matters" (aO 12)
 d4:bL K "is_name" (aO 22)
 d5:bL K "is_rule" (aO 24)
 d6:bL K "is_piece" (aO 23)
 d7:bL K "is_pieces" (aO 25)
 d8:bL K "is_change" (aO 26)
 d9:bL K "is_changes" (aO 27)
 d10:bL K "is_part" (aO 28)
 d11:bL K "is_deed" (aO 29)
 d12:bL K "word_of" (aO 32)
 d13:bL K "part_of" (aO 33)
 d14:bL K "day_of" (aO 34)
 d15:bL K "is_timely" (aO 30)
 d16:bL K "is_row" (aO 31)
 d17:bL K "root_offices" (aO 39)
 d18:bL K "is_second_root" (aO 40)
 d19:bL K "parts_in" (aO 35)
 d20:bL K "people_in" (aO 36)
 d21:bL K "count_people" (aO 41)
 d22:bL K "is_refused" (aO 42)
 d23:bL K "register_of" (aO 43)
 d24:bL K "heard" (aO 44)
 d25:bL K "rank" (aO 46)
 d26:bL K "in_order" (aO 48)
 d27:bL K "by_office" (aO 60)
 d28:bL K "roots" (aO 49)
 d29:bL K "is_known" (aO 45)
 d30:bL K "tells" (aO 52)
 d31:bL K "told_of" (aO 53)
 d32:bL K "lives" (aO 54)
 d33:bL K "has_seal" (aO 55)
 d34:bL K "is_sound" (aO 56)
 d35:bL K "lies_in" (aO 9)
 d36:bL K "is_alive" (aO 58)
 d37:bL K "by_since" (aO 59)
 d38:bL K "chief_of" (aO 61)
 d39:bL K "holder_by" (aO 62)
 d40:bL K "is_held_by" (aO 63)
 d41:bL K "is_first_death" (aO 64)
 d42:bL K "counts" (aO 65)
 d43:bL K "new_claim" (aO 66)
 d44:bL K "ended" (aO 67)
 d45:bL K "after_choice" (aO 68)
 d46:bL K "inherited" (aO 69)
 d47:bL K "after_death" (aO 70)
 d48:bL K "claims" (aO 71)
 d49:bL K "is_paper" (aO 75)
 d50:bL K "is_leave" (aO 76)
 d51:bL K "is_borne" (aO 77)
 d52:bL K "covers" (aO 13)
 d53:bL K "reach_bar" (aO 81)
 d54:bL K "office_bar" (aO 82)
 d55:bL K "office_bases" (aO 85)
 d56:bL K "ends_within" (aO 11)
 d57:bL K "is_within" (aO 10)
 d58:bL K "is_ahead" (aO 47)
 d59:bL K "leave_bar" (aO 83)
 d60:bL K "leaves_to" (aO 84)
 d61:bL K "leave_bases" (aO 86)
 d62:bL K "copy_bases" (aO 87)
 d63:bL K "bases_by" (aO 88)
 d64:bL K "may_call" (aO 78)
 d65:bL K "calls_in" (aO 79)
 d66:bL K "calls_by" (aO 80)
 d67:bL K "is_fit" (aO 89)
 d68:bL K "links" (aO 90)
 d69:bL K "bears" (aO 91)
 d70:bL K "stood" (aO 92)
 d71:bL K "standing" (aO 93)
 d72:bL K "first_bearer" (aO 94)
 d73:bL K "chain" (aO 95)
 d74:bL K "is_begun" (aO 96)
 d75:bL K "is_linked" (aO 97)
 d76:bL K "is_chain" (aO 98)
 d77:bL K "_law_cell" (aO 100)
 d78:bL K "_law_names" (aO 101)
 d79:bL K "_law_giver" (aO 102)
 d80:bL K "_law_sealed" (aO 103)
 d81:bL K "_law_row" (aO 104)
 d82:bL K "_law_rows" (aO 105)
 d83:bL K "holder" (aO 72)
 d84:bL K "_law_heads" (aO 108)
 d85:bL K "_law_matters" (aO 106)
 d86:bL K "_law_stretch" (aO 107)
 d87:bL K "_law_link" (aO 109)
 d88:bL K "_law_within" (aO 111)
 d89:bL K "_law_walked" (aO 110)
 d90:bL K "law" (aO 112)
 n0:mg "all" = none
 n1:mg "any" = none
 n2:mg "bool" = none
 n3:mg "dict" = none
 n4:mg "enumerate" = none
 n5:mg "int" = none
 n6:mg "isinstance" = none
 n7:mg "len" = none
 n8:mg "list" = none
 n9:mg "max" = none
 n10:mg "min" = none
 n11:mg "range" = none
 n12:mg "reversed" = none
 n13:mg "set" = none
 n14:mg "sorted" = none
 n15:mg "str" = none
 n16:mg "tuple" = none
 n17:mg "zip" = none
 k0:KC K mg "ALL_MATTERS" lq
 k1:KC K mg "LAST_DAY" qU
 k2:KC K mg "MOST_FURTHER" jK
 k3:KC K mg "MOST_LETTERS" jL
 k4:KC K mg "MOST_PEOPLE" lr
 k5:KC K mg "MOST_PIECES" ig
 k6:KC K mg "MOST_ROWS" jM
 k7:KC K mg "PAPERS" za
 k8:KD w K mg "PARTS" bT
 k9:KC K mg "PERSON_PARTS" gg
 k10:KC K mg "RULES" Db
 k11:KC K mg "SEALINGS" gh
 l26:yK K "in_order"
 l33:yK K "has_seal"
 l41:yK K "is_first_death"
 l63:yK K "bases_by"
section
variable {w:World}{K:Frag}{mg:SV}(T:Tx w K mg)
include T
theorem ZJ:a5 w K mg Gh:=⟨T.hX,nofun,by simp only[Gh,forall_mem_cons];exact⟨T.k0,T.k1,T.k2,T.k3,T.k4,T.k5,T.k6,T.k7,T.k9,T.k10,T.k11,nofun⟩,by simp only[Gh,forall_mem_cons];exact⟨T.k8,nofun⟩,by simp only[Gh,forall_mem_cons];exact⟨T.n0,T.n1,T.n2,T.n3,T.n4,T.n5,T.n6,T.n7,T.n8,T.n9,T.n10,T.n11,T.n12,T.n13,T.n14,T.n15,T.n16,T.n17,nofun⟩,by simp only[Gh,forall_mem_cons];exact⟨T.l26,T.l33,T.l41,T.l63,nofun⟩⟩
theorem ZK:a5 w K mg (Np.gt lI):=Np.o T.d0 (ZJ T) 3
theorem ZL:a5 w K mg (Nq.gt qV):=Nq.o T.d1 (ZK T) 1
theorem ZM:a5 w K mg (Nr.gt mN):=Nr.o T.d2 (ZL T) 1
theorem ZN:a5 w K mg (Nt.gt mO):=Nt.o T.d3 (ZM T) 1
theorem ZO:a5 w K mg (Nu.gt kJ):=Nu.o T.d4 (ZN T) 1
theorem ZP:a5 w K mg (Nv.gt uq):=Nv.o T.d5 (ZO T) 1
theorem ZQ:a5 w K mg (Nw.gt lJ):=Nw.o T.d6 (ZP T) 1
theorem ZR:a5 w K mg (Nx.gt gR):=Nx.o T.d7 (ZQ T) 1
theorem ZS:a5 w K mg (Ny.gt gS):=Ny.o T.d8 (ZR T) 1
theorem ZT:a5 w K mg (Nz.gt je):=Nz.o T.d9 (ZS T) 1
theorem Wc:a5 w K mg (Dc.gt cS):=Dc.o T.d10 (ZT T) 2
theorem Wd:a5 w K mg (De.gt ou):=De.o T.d11 (Wc T) 1
theorem We:a5 w K mg (Df.gt bo):=Df.o T.d12 (Wd T) 1
theorem Wf:a5 w K mg (Dg.gt av):=Dg.o T.d13 (We T) 2
theorem Wg:a5 w K mg (Dh.gt bp):=Dh.o T.d14 (Wf T) 1
theorem Wh:a5 w K mg (Di.gt jN):=Di.o T.d15 (Wg T) 1
theorem Wi:a5 w K mg (Dj.gt qW):=Dj.o T.d16 (Wh T) 1
theorem Wj:a5 w K mg (Dk.gt gk):=Dk.o T.d17 (Wi T) 1
theorem Wk:a5 w K mg (Dl.gt eK):=Dl.o T.d18 (Wj T) 2
theorem Wl:a5 w K mg (Dm.gt gm):=Dm.o T.d19 (Wk T) 1
theorem Wm:a5 w K mg (Dn.gt gT):=Dn.o T.d20 (Wl T) 1
theorem Wn:a5 w K mg (zb.gt gn):=zb.o T.d21 (Wm T) 1
theorem Wo:a5 w K mg (Dp.gt jf):=Dp.o T.d22 (Wn T) 2
theorem Wp:a5 w K mg (zc.gt fg):=zc.o T.d23 (Wo T) 1
theorem Wr:a5 w K mg (Dq.gt dS):=Dq.o T.d24 (Wp T) 2
theorem Ws:a5 w K mg (Dr.gt gp):=Dr.o T.d25 (Wr T) 2
theorem Wt:a5 w K mg (Ds.gt dA):=Ds.o T.d26 (Ws T) 2
theorem Wu:a5 w K mg (Dt.gt jO):=Dt.o T.d27 (Wt T) 1
theorem Ww:a5 w K mg (Du.gt gU):=Du.o T.d28 (Wu T) 2
theorem Wx:a5 w K mg (Dv.gt cz):=Dv.o T.d29 (Ww T) 3
theorem Wy:a5 w K mg (Dx.gt pA):=Dx.o T.d30 (Wx T) 4
theorem Wz:a5 w K mg (Dy.gt kK):=Dy.o T.d31 (Wy T) 5
theorem W1:a5 w K mg (Dz.gt pB):=Dz.o T.d32 (Wz T) 4
theorem W2:a5 w K mg (D0.gt lK):=D0.o T.d33 (W1 T) 4
theorem W3:a5 w K mg (D1.gt jg):=D1.o T.d34 (W2 T) 3
theorem W4:a5 w K mg (D2.gt kL):=D2.o T.d35 (W3 T) 2
theorem W5:a5 w K mg (D3.gt dB):=D3.o T.d36 (W4 T) 2
theorem W6:a5 w K mg (D4.gt gu):=D4.o T.d37 (W5 T) 1
theorem W7:a5 w K mg (D5.gt lL):=D5.o T.d38 (W6 T) 2
theorem W9:a5 w K mg (D6.gt jP):=D6.o T.d39 (W7 T) 3
theorem WA:a5 w K mg (D7.gt cV):=D7.o T.d40 (W9 T) 4
theorem WB:a5 w K mg (D8.gt eM):=D8.o T.d41 (WA T) 3
theorem WC:a5 w K mg (D9.gt mP):=D9.o T.d42 (WB T) 4
theorem WD:a5 w K mg (DA.gt gV):=DA.o T.d43 (WC T) 3
theorem WE:a5 w K mg (zd.gt wR):=zd.o T.d44 (WD T) 4
theorem WG:a5 w K mg (DB.gt gy):=DB.o T.d45 (WE T) 3
theorem WH:a5 w K mg (zf.gt jQ):=zf.o T.d46 (WG T) 5
theorem WI:a5 w K mg (DC.gt ij):=DC.o T.d47 (WH T) 5
theorem WJ:a5 w K mg (zg.gt qY):=zg.o T.d48 (WI T) 2
theorem WK:a5 w K mg (DD.gt eN):=DD.o T.d49 (WJ T) 3
theorem WL:a5 w K mg (DE.gt gz):=DE.o T.d50 (WK T) 3
theorem WM:a5 w K mg (DF.gt eO):=DF.o T.d51 (WL T) 3
theorem WN:a5 w K mg (DG.gt g9):=DG.o T.d52 (WM T) 2
theorem WO:a5 w K mg (DH.gt jR):=DH.o T.d53 (WN T) 2
theorem WP:a5 w K mg (DI.gt fJ):=DI.o T.d54 (WO T) 3
theorem WQ:a5 w K mg (DJ.gt gA):=DJ.o T.d55 (WP T) 4
theorem WR:a5 w K mg (DK.gt io):=DK.o T.d56 (WQ T) 2
theorem WS:a5 w K mg (DM.gt gW):=DM.o T.d57 (WR T) 2
theorem WT:a5 w K mg (DN.gt gB):=DN.o T.d58 (WS T) 3
theorem WU:a5 w K mg (DO.gt jS):=DO.o T.d59 (WT T) 3
theorem WV:a5 w K mg (DP.gt jT):=DP.o T.d60 (WU T) 3
theorem WW:a5 w K mg (DQ.gt iq):=DQ.o T.d61 (WV T) 3
theorem WX:a5 w K mg (DR.gt ji):=DR.o T.d62 (WW T) 3
theorem WY:a5 w K mg (DS.gt dC):=DS.o T.d63 (WX T) 4
theorem WZ:a5 w K mg (DT.gt lM):=DT.o T.d64 (WY T) 5
theorem Xa:a5 w K mg (DU.gt jj):=DU.o T.d65 (WZ T) 6
theorem Xb:a5 w K mg (DV.gt lN):=DV.o T.d66 (Xa T) 5
theorem Xc:a5 w K mg (DW.gt mQ):=DW.o T.d67 (Xb T) 5
theorem Xd:a5 w K mg (zh.gt mR):=zh.o T.d68 (Xc T) 3
theorem Xe:a5 w K mg (DX.gt pC):=DX.o T.d69 (Xd T) 2
theorem Xf:a5 w K mg (zi.gt pD):=zi.o T.d70 (Xe T) 1
theorem Xg:a5 w K mg (DY.gt lO):=DY.o T.d71 (Xf T) 3
theorem Xh:a5 w K mg (DZ.gt dU):=DZ.o T.d72 (Xg T) 2
theorem Xi:a5 w K mg (zj.gt mS):=zj.o T.d73 (Xh T) 4
theorem Xj:a5 w K mg (Ea.gt jk):=Ea.o T.d74 (Xi T) 2
theorem Xk:a5 w K mg (Eb.gt gX):=Eb.o T.d75 (Xj T) 2
theorem Xl:a5 w K mg (Ec.gt jl):=Ec.o T.d76 (Xk T) 4
theorem Xm:a5 w K mg (Ed.gt qZ):=Ed.o T.d77 (Xl T) 2
theorem Xn:a5 w K mg (zm.gt o0):=zm.o T.d78 (Xm T) 1
theorem Xo:a5 w K mg (Ee.gt kM):=Ee.o T.d79 (Xn T) 3
theorem Xp:a5 w K mg (Ef.gt lP):=Ef.o T.d80 (Xo T) 5
theorem Xq:a5 w K mg (Eg.gt wS):=Eg.o T.d81 (Xp T) 3
theorem Xr:a5 w K mg (zn.gt ra):=zn.o T.d82 (Xq T) 1
theorem Xs:a5 w K mg (Eh.gt mT):=Eh.o T.d83 (Xr T) 4
theorem Xt:a5 w K mg (zo.gt o3):=zo.o T.d84 (Xs T) 4
theorem Xu:a5 w K mg (Ei.gt gY):=Ei.o T.d85 (Xt T) 1
theorem Xv:a5 w K mg (Ej.gt jU):=Ej.o T.d86 (Xu T) 1
theorem Xw:a5 w K mg (Ek.gt iL):=Ek.o T.d87 (Xv T) 3
theorem Xx:a5 w K mg (zp.gt jm):=zp.o T.d88 (Xw T) 3
theorem Xy:a5 w K mg (zr.gt lQ):=zr.o T.d89 (Xx T) 4
theorem head {P:Program}{fa:Addr}(M:mg "law" = some (.ref fa)):∃fd:FuncData,(∀(s:Shared)(u:Value),BindsTo s fd ⟨[u],[]⟩ [("_law_script",u)])/\∀base:Heap,K.In base->base.Ns mainGlobals mg->sk P w K mg base A2 15 fa fd ["_law_script"] (Lp K F_law):=by
 have S:FnScope ["_law_script","_law_rows_here","_law_book","_law_k","_law_day","_law_some","_law_fallen","_law_number","_law_found","_law_told","_law_spoiled"] ["_law_script"] (aE (aO 112)):=by refine⟨rr,rr,rr,?_,rr,?_,?_⟩<;>decide +kernel
 have ⟨h,X,G⟩:=T.hX;have e:F_law=ax (zv.r.getD qi) 1 10:=u9
 rw[e];exact bL.law T.d90 X G M S (λ_ _ _ _ _ _ u=>rr) λbase O a f dF A outer s H E hr=>zv.js S9 (Xy T) S.nd hr λh=>absurd h S9
end
end Lw
end
end Lake
open Lake
structure PySem.W.Fast:Prop where(tw3445711442463093817 tw8846604859020002362 tw8657211293571880492 tw10734735624602962433 tw12490064169758587423 tw15393902590815876193 tw2562771748257222774 tw8812131891862199062 tw9735533690837314309 tw4442430270224149922 tw4856287366623219588 tw8518815189639990091 tw276412408338837693 tw7831834826362942277 tw12848534161114078900 tw4174015479420114798 tw11651477225786888916 tw11013634065642995471 tw6920821690812226473 tw8065438476364839413 tw17584165082354720192 tw8489314004061982773 tw2706812714433354814 tw11103077799547213289 tw9797554950951954640 tw7068302423166958513 tw15439902840761133056 tw12192762989761185251 tw1453127266540999022 tw6843342336053098590 tw2566891429427526101 tw4953836537391429288 tw17650641877666106940 tw14427546614204847646 tw10256483101205715179 tw8990937509713366781 tw2935845073730357417 tw2921027045949755839 tw2316497826264478565 tw10393066751132973418 tw602306716580663320 tw3671514313155892356 tw1236229624511503390 tw9208819306643529246 tw12197739026272080096 tw2484052772440106948 tw9561725727382738698 tw16155154788196128439 tw3540645220109839138 tw4599345573559751434 tw1684365157647405135 tw18237175672698572490 tw11063927331030329754 tw1069111700544328395 tw12162416377819624426 tw6310277605842715066 tw4439969447182134745 tw17695661919517174238 tw11183856738646308594 tw17016608237889998232 tw6399221704592533307 tw10303401559270560829 tw5768233338517335188 tw6347033174899881609 tw11456135574703559136 tw8614752657199708262 tw4613492114672002187 tw7697976536580843771 tw15354902251938865050 tw14492193798275736825 tw629416135538280216 tw6515281228571256840 tw15798936036127429591 tw17415138321166808188 tw6124889792262584624 tw9697202462298631028 tw6068969659764552319 tw7492538123819430915 tw7533571634072762648 tw2144533805516112066 tw4501978418669311914 tw919455788360197339 tw15470279737155909852 tw17054806731477924522 tw4353776644281837114 tw11091846636574343926 tw6230177234404986961 tw2932607480046959451 tw5570862048933314811 tw6982446799951927524 tw14331877095122051704 tw7716190151298966904 tw12939218875678470452 tw1710865023682814407 tw11522353252935637810 tw410219320589201020 tw9031708543455880057 tw13263588963241741765 tw1854913890592708102 tw8409230200044021144 tw4032425149556994004 tw6957610917611656329 tw15356591578145329455 tw14521974447836706025 tw11952644236485090501 tw13163291323834823516 tw16112213985368272992 tw2741774326210061954 tw3230853693434277230 tw6830558125827123550 tw13330131212539569030 tw7308346182648667043 tw3535867361887655873 tw10499185693154061729 tw10627521163035089304 tw7199910876007586257 tw12154263778845549908 tw6940733533776688029 tw12827652241721336250 tw418656681121497928 tw6022251774023048483 tw13630746383974874798 tw1671228855048437032 tw4269281970513199920 tw16240987426430760387 tw11816530858122988505 tw16247603159792485466 tw470095926805366228 tw14133084995609812597 tw16943473380279758601 tw15049613995940706787 tw12672800792988128151 tw3839674432931736953 tw3847011602438731258 tw2803605248986053559 tw5877744354415569258 tw8783163155654603966 tw4425221476883809118 tw6082871797855202670 tw11356953841183658112 tw17766073552830531169 tw15295887112307310446 tw5058201819455300698 tw14017725084364343336 tw8085890950675152801 tw9399099151984197558 tw8938026418905602950 tw18236580964634926125 tw14550455245513832772 tw8070805848823162243 tw12823376850398302656 tw17337050301453798077 tw1438599018670051809 tw16297702931144706376 tw11398848591702731272 tw11477345486659846927 tw12025943060359746332 tw6748521215839415109 tw5361392565463285483 tw12894999462371395573 tw2889048787648730202 tw11566998008055726014 tw1485009210808927014 tw16945014781265885175 tw6463425672302091525 tw5711769152232601074 tw10003035490619131559 tw15778905479595203970 tw14896045494489322504 tw13217130293647706806 tw12220521584890395307 tw18019536333567028664 tw1609522643230953193 tw4130065864029911474 tw14485125704753241362 tw13132973115562233224 tw1698102761516132171 tw6812717111608057844 tw74511575668557230 tw854420790527414088 tw17536690473113534164 tw12389111809049132879 tw18386713248104649991 tw2829125108004557500 tw5386786066398181315 tw11978320204348653141 tw857403522477073620 tw11436115879101782060 tw4729339298134485295 tw9171701856943423630 tw6139465137641294039 tw17432682356667075537 tw6340290256158337629 tw8094344221647527846 tw4941083292942858500 tw18020508346727813028 tw16434123329925081829 tw12761592591372313135 tw17693403506820426 tw15556712728899164123 tw6363671481261423478 tw7040411488006411530 tw7699420849932469878 tw4307432805550636668 tw6528353128912742342 tw1761875799331155045 tw17050095734150926261 tw3483637603456762904 tw16849894674735283253 tw3440309739151791893 tw6076182872592733623 tw11149252619258851716 tw5439053145963929243 tw4370778445869136654 tw2152591312725244569 tw3870338870919619537 tw10069651640638493943 tw7658695906923873548 tw10706035049971640403 tw6070239819803612647 tw3578610228252591671 tw14467429190002885787 tw390885528892906955 tw15160241356554197494 tw3133611249521971683 tw12762615933147112085 tw16710281814805672890 tw7548103637167362036 tw12123264964136461439 tw8374685931014237881 tw16763628642517559780 tw11535902930480867514 tw13147351930685398183 tw3087628734475081946 tw15774885958945590215 tw3927393476305281807 tw8429812764313961673 tw3268849089869119535 tw13602170890388595797 tw17402684993022239227 tw14215253683597004040 tw11987555148543738985 tw12209358607010169214 tw6896204139838694458 tw8123457732868190784 tw6540359808115922211 tw17284627829455907663 tw5430840248092429599 tw16077004115284825871 tw6195149313760057105 tw16181543555710941375 tw1489042921334425463 tw8866889179720575279 tw12895776158746706656 tw11986935698179683502 tw4446097688947741720 tw2756053808897240374 tw10614508623939298805 tw12655497181531987160 tw4007171817407752861 tw16358567758246255801 tw4788194147634141261 tw7447099996746452153 tw392875186683799273 tw1100586227768593882 tw12453724621965212186 tw4545982591140796457 tw9580463231586672649 tw7605128995965968819 tw2008809987235535443 tw17571886179101756015 tw14070630959327283451 tw15304362028632927270 tw10539127185238179796 tw9617310348584880112 tw5440013043745701310 tw3397499274984818958 tw17272564628110500490 tw14575268643685089952 tw11803337019563053414 tw189160292997023280 tw3886755505127418868 tw8807018636690291540 tw13074577778760501748 tw6861462699821892912 tw5265293483502681071 tw2828468265841693100 tw16163891705939820806 tw1243528994587388226 tw12047252315988068726 tw2183067091726810699 tw18210258291631592868 tw12995077285216736033 tw8216589583444268257 tw5370238248064642439 tw4965129689090609122 tw4506035936000609864 tw2389503363519875648 tw13375625915877937777 tw10856485934341041918 tw302504584143741318 tw13499736460951019676 tw1107318212156588847 tw8089309103890778207 tw6817210966213240806 tw4027978707198479722 tw3567199269243922217 tw2161822559044684566 tw17702314728883331705 tw16559590095579951447 tw11234511224750713549 tw6072918956173390783 tw16680054887610978204 tw6023696006541349848 tw3187525331111596862 tw3063970034084767564 tw12397533903141298122 tw9206365614232175874 tw8416124648238099873 tw3872387532056569803 tw16300149805044768031 tw15646015161774221338 tw10037068506977286849 tw4176166022230226324 tw16044528154172786262 tw17961579293169191459 tw7363904740753955566 tw5752029006357065679 tw17136963898296887678 tw15919509698561397112 tw7394779150531275932 tw3272064693992802577 tw4478136791679487191 tw7079880171436324119 tw17002859268863310301 tw15136804714221984474 tw11640795215817205515 tw10961543141575728923 tw11211640793818243955 tw15409877211716130861 tw1477385802027087062 tw3952400237449837058 tw7638676497233154512 tw7166719679068304927 tw674832390361085471 tw8145928571387574270 tw11845872922066160956 tw11125520607088189232 tw15831867402390605722 tw16378567543936857629 tw8250770742273794589 tw1623753807241045715 tw12804096735141374820 tw6944931240350095812 tw10910175363742035188 tw4978422802123106903 tw12730276860503715026 tw8105604243088812311 tw13174353488430374119 tw13848758122929107252 tw4797867745710442242 tw1153869300068882319 tw5616742422976810863 tw17499379544379250071 tw14721298863234459338 tw13470415526952295653 tw1202598650990439773 tw10966367621434777610 tw14285615539259735041 tw11813374458099489919 tw17840047655283400109 tw2012733095274293330 tw7132127374789849748 tw607218396103988487 tw9741931259040930151 tw6811738789434163453 tw106765958713746808 tw17264961704455674578 tw12760941944885200311 tw11280627864279489400 tw9510990526209556687 tw16580917910866909313 tw15895014996101434136 tw13313621060451063465 tw12197004748530971826 tw10393924689692653829 tw14997149082898304378 tw5494056168083647465 tw3872482286423842567 tw14780526083818949998 tw12750718979432594269 tw6911960499093199522 tw17956011382060906852 tw14512690666267229651 tw14102313488567349480 tw12535191396028677159 tw14724205070079343162 tw8394208210717079536 tw5344183794978616332 tw17813490644964668688 tw7735722940181986391 tw6358253353979232707 tw5730483402326942500 tw4469263865246218153 tw4359510027018657622 tw3515040792389915114 tw16658719959094092667 tw13467890336212822562 tw12702123251979051401 tw51758236605742656 tw12901343404551772191 tw18113886885143906908 tw1684634002115891661 tw11546063017466657706 tw5038813941865324859 tw13159556076979271084 tw12893263063143492095 tw11365230632362907020 tw7047956600666362067 tw16944409408218904064 tw2718370833952718210:True)
open PySem PySem.W PyProof.Rows
set_option maxRecDepth 100000 in
set_option maxHeartbeats 0 in
theorem PySem.Challenge.cw_sealchain_k53_whole_chains_reach_no_furt_holds : PySem.Challenge.rw_sealchain_k53_whole_chains_reach_no_furt.Holds := by
 w_on; o_law; k_head; (case hw => w_witness2)
 k_fill
 refine' DL.walkB (l := PySem.Challenge.rw_sealchain_k53_whole_chains_reach_no_furt) (k := 15) (x := ("_law_script" : PySem.Str)) (f := Lw.F_law) (L := [(("in_order" : PySem.Str), ?t0), (("has_seal" : PySem.Str), ?t1), (("is_first_death" : PySem.Str), ?t2), (("bases_by" : PySem.Str), ?t3), (("as_heard" : PySem.Str), ?t4)]) rfl rfl ⟨rfl, by decide, by decide⟩ (fun w h Y => PySem.W.km_in_of Y) ?T ?D ?F Lw.law_true
 case T =>
  intro w
  refine' DL.tabs_fit ?h0 ?h1 ?h2 ?h3 ?h4 ?ap ?nt
  (case h0 => refine' DL.tab_yes ?a ?l ?c ?m ?v; (case a => k_is); (case l => k_is); (case c => exact rfl); (case m => k_is); (case v => exact rfl))
  (case h1 => refine' DL.tab_yes ?a ?l ?c ?m ?v; (case a => k_is); (case l => k_is); (case c => exact rfl); (case m => k_is); (case v => exact rfl))
  (case h2 => refine' DL.tab_yes ?a ?l ?c ?m ?v; (case a => k_is); (case l => k_is); (case c => exact rfl); (case m => k_is); (case v => exact rfl))
  (case h3 => refine' DL.tab_yes ?a ?l ?c ?m ?v; (case a => k_is); (case l => k_is); (case c => exact rfl); (case m => k_is); (case v => exact rfl))
  (case h4 => refine' DL.tab_no ?a; (case a => k_is))
  (case ap => decide)
  (case nt => kernel_rfl)
 case D => kernel_rfl
 case F =>
  intro w mg fa h KX G hmg
  refine' Lw.head ⟨⟨h, KX, G⟩, ?d0, ?d1, ?d2, ?d3, ?d4, ?d5, ?d6, ?d7, ?d8, ?d9, ?d10, ?d11, ?d12, ?d13, ?d14, ?d15, ?d16, ?d17, ?d18, ?d19, ?d20, ?d21, ?d22, ?d23, ?d24, ?d25, ?d26, ?d27, ?d28, ?d29, ?d30, ?d31, ?d32, ?d33, ?d34, ?d35, ?d36, ?d37, ?d38, ?d39, ?d40, ?d41, ?d42, ?d43, ?d44, ?d45, ?d46, ?d47, ?d48, ?d49, ?d50, ?d51, ?d52, ?d53, ?d54, ?d55, ?d56, ?d57, ?d58, ?d59, ?d60, ?d61, ?d62, ?d63, ?d64, ?d65, ?d66, ?d67, ?d68, ?d69, ?d70, ?d71, ?d72, ?d73, ?d74, ?d75, ?d76, ?d77, ?d78, ?d79, ?d80, ?d81, ?d82, ?d83, ?d84, ?d85, ?d86, ?d87, ?d88, ?d89, ?d90, PySem.W.mg_none_of KX G ?z0, PySem.W.mg_none_of KX G ?z1, PySem.W.mg_none_of KX G ?z2, PySem.W.mg_none_of KX G ?z3, PySem.W.mg_none_of KX G ?z4, PySem.W.mg_none_of KX G ?z5, PySem.W.mg_none_of KX G ?z6, PySem.W.mg_none_of KX G ?z7, PySem.W.mg_none_of KX G ?z8, PySem.W.mg_none_of KX G ?z9, PySem.W.mg_none_of KX G ?z10, PySem.W.mg_none_of KX G ?z11, PySem.W.mg_none_of KX G ?z12, PySem.W.mg_none_of KX G ?z13, PySem.W.mg_none_of KX G ?z14, PySem.W.mg_none_of KX G ?z15, PySem.W.mg_none_of KX G ?z16, PySem.W.mg_none_of KX G ?z17, DL.kc_of KX G ?k0, DL.kc_of KX G ?k1, DL.kc_of KX G ?k2, DL.kc_of KX G ?k3, DL.kc_of KX G ?k4, DL.kc_of KX G ?k5, DL.kc_of KX G ?k6, DL.kc_of KX G ?k7, DL.kd_of KX G ?k8, DL.kc_of KX G ?k9, DL.kc_of KX G ?k10, DL.kc_of KX G ?k11, ?q0, ?q1, ?q2, ?q3⟩ hmg
  iterate 91 (refine' DL.def_mk ?a ?l ?c ?k; (case a => k_is); (case l => k_is); (case c => k_is); (case k => k_is))
  (case z0 => k_is)
  (case z1 => k_is)
  (case z2 => k_is)
  (case z3 => k_is)
  (case z4 => k_is)
  (case z5 => k_is)
  (case z6 => k_is)
  (case z7 => k_is)
  (case z8 => k_is)
  (case z9 => k_is)
  (case z10 => k_is)
  (case z11 => k_is)
  (case z12 => k_is)
  (case z13 => k_is)
  (case z14 => k_is)
  (case z15 => k_is)
  (case z16 => k_is)
  (case z17 => k_is)
  (case k0 => refine' DL.const_int ?e; (case e => k_is))
  (case k1 => refine' DL.const_int ?e; (case e => k_is))
  (case k2 => refine' DL.const_int ?e; (case e => k_is))
  (case k3 => refine' DL.const_int ?e; (case e => k_is))
  (case k4 => refine' DL.const_int ?e; (case e => k_is))
  (case k5 => refine' DL.const_int ?e; (case e => k_is))
  (case k6 => refine' DL.const_int ?e; (case e => k_is))
  (case k7 => refine' DL.const_tup ?e ?l ?v; (case e => k_is); (case l => k_is); (case v => decide +kernel))
  (case k8 => refine' DL.const_dict ?e ?l ?r ?s; (case e => k_is); (case l => k_is); (case r => refine' (DL.CRows.tup rfl ?l0 ?f0 (DL.CRows.tup rfl ?l1 ?f1 (DL.CRows.tup rfl ?l2 ?f2 (DL.CRows.tup rfl ?l3 ?f3 (DL.CRows.tup rfl ?l4 ?f4 (DL.CRows.tup rfl ?l5 ?f5 (DL.CRows.tup rfl ?l6 ?f6 (DL.CRows.tup rfl ?l7 ?f7 (DL.CRows.tup rfl ?l8 ?f8 (DL.CRows.tup rfl ?l9 ?f9 (DL.CRows.tup rfl ?l10 ?f10 (DL.CRows.tup rfl ?l11 ?f11 DL.CRows.nil)))))))))))); (case l0 => k_is); (case f0 => decide +kernel); (case l1 => k_is); (case f1 => decide +kernel); (case l2 => k_is); (case f2 => decide +kernel); (case l3 => k_is); (case f3 => decide +kernel); (case l4 => k_is); (case f4 => decide +kernel); (case l5 => k_is); (case f5 => decide +kernel); (case l6 => k_is); (case f6 => decide +kernel); (case l7 => k_is); (case f7 => decide +kernel); (case l8 => k_is); (case f8 => decide +kernel); (case l9 => k_is); (case f9 => decide +kernel); (case l10 => k_is); (case f10 => decide +kernel); (case l11 => k_is); (case f11 => decide +kernel)); (case s => decide +kernel))
  (case k9 => refine' DL.const_tup ?e ?l ?v; (case e => k_is); (case l => k_is); (case v => decide +kernel))
  (case k10 => refine' DL.const_tup ?e ?l ?v; (case e => k_is); (case l => k_is); (case v => decide +kernel))
  (case k11 => refine' DL.const_tup ?e ?l ?v; (case e => k_is); (case l => k_is); (case v => decide +kernel))
  (case q0 => refine' DL.lam_mk ?a ?l ?c ?m ?v1 ?v2 ?v3 ?v4 ?v5 ?v6 ?v7; (case a => k_is); (case l => k_is); (case c => exact rfl); (case m => k_is); (case v1 => exact rfl); (case v2 => exact rfl); (case v3 => exact rfl); (case v4 => exact rfl); (case v5 => exact rfl); (case v6 => exact rfl); (case v7 => decide))
  (case q1 => refine' DL.lam_mk ?a ?l ?c ?m ?v1 ?v2 ?v3 ?v4 ?v5 ?v6 ?v7; (case a => k_is); (case l => k_is); (case c => exact rfl); (case m => k_is); (case v1 => exact rfl); (case v2 => exact rfl); (case v3 => exact rfl); (case v4 => exact rfl); (case v5 => exact rfl); (case v6 => exact rfl); (case v7 => decide))
  (case q2 => refine' DL.lam_mk ?a ?l ?c ?m ?v1 ?v2 ?v3 ?v4 ?v5 ?v6 ?v7; (case a => k_is); (case l => k_is); (case c => exact rfl); (case m => k_is); (case v1 => exact rfl); (case v2 => exact rfl); (case v3 => exact rfl); (case v4 => exact rfl); (case v5 => exact rfl); (case v6 => exact rfl); (case v7 => decide))
  (case q3 => refine' DL.lam_mk ?a ?l ?c ?m ?v1 ?v2 ?v3 ?v4 ?v5 ?v6 ?v7; (case a => k_is); (case l => k_is); (case c => exact rfl); (case m => k_is); (case v1 => exact rfl); (case v2 => exact rfl); (case v3 => exact rfl); (case v4 => exact rfl); (case v5 => exact rfl); (case v6 => exact rfl); (case v7 => decide))
